"""Whether two machines write the same, shown by the delays of their live pairs.

A rewriter beside itself is single or not. All functions here change only what they make
themselves, since an operator uses them.
"""
from fewmarks.base.words import is_delay, left_over
from fewmarks.core.doubles import double_of, double_steps, end_pairs, live_among, start_pairs
from fewmarks.core.graphs import first_ways, way_to
from fewmarks.core.kinds import is_integer, is_tuple_of
from fewmarks.core.trails import written_by
from fewmarks.errors import NotSingle


def check_single(rewriter):
    """Refuses a rewriter that has two results for a text."""
    paper = paper_of(rewriter)
    if paper[0] == "two":
        raise NotSingle(paper)


def paper_of(rewriter):
    """Any single paper of a rewriter."""
    return paper_between(rewriter, rewriter)


def paper_between(one, other):
    """The delays of all live pairs, or a text for which both write unlike words.

    This is ("single", delays) or ("two", text, path of the one, path of the other).
    """
    steps = live_steps(one, other)
    found = first_ways([pair for pair in start_pairs(one, other) if pair in steps], steps)
    delays = _delays_along(one, other, found)
    wrong = _wrong_way(one, other, steps, found, delays)
    if wrong is not None:
        return _paper_of_two(one, other, steps, wrong)
    return "single", {pair: delays[pair] for pair in sorted(list(delays))}


def are_delays(one, other, value):
    """Whether this is a dict from just the live pairs to delays that go on as the steps do."""
    steps = live_steps(one, other)
    # True equals 1, so the kinds of the keys are asked for before they are compared.
    if not isinstance(value, dict) or not all([_is_pair_of_numbers(pair) for pair in value]):
        return False
    if sorted(list(value)) != list(steps) or not all([is_delay(delay) for delay in value.values()]):
        return False
    starts, others = one.starts, other.starts
    for pair in start_pairs(one, other):
        if pair in steps and value[pair] != left_over(starts[pair[0]], others[pair[1]]):
            return False
    for pair in steps:
        if any([led_by_step(value[pair], label) != value[after] for label, after in steps[pair]]):
            return False
    return all([at_ends in (None, ("", "")) for at_ends in _led_to_ends(one, other, value)])


def live_steps(one, other):
    """A dict from the live pairs, ascending, to the tuples of their steps to live pairs."""
    steps = double_steps(one, other)
    live = {pair: True for pair in live_among(one, other, steps)}
    return {pair: tuple([step for step in steps[pair] if step[1] in live]) for pair in live}


def led_by_step(delay, label):
    """The delay behind a step."""
    return left_over(delay[0] + label[0][2], delay[1] + label[1][2])


def _is_pair_of_numbers(value):
    return is_tuple_of(value, 2) and is_integer(value[0]) and is_integer(value[1])


def _led_to_ends(one, other, delays):
    """For each pair the delay behind the words of its ends, or None where not both are ends."""
    ends, others = one.ends, other.ends
    return [left_over(delays[pair][0] + ends[pair[0]], delays[pair][1] + others[pair[1]])
            if pair[0] in ends and pair[1] in others else None for pair in delays]


def _delays_along(one, other, found):
    """For each pair the delay behind its first way."""
    starts, others = one.starts, other.starts
    delays = {}
    for pair in found:
        if found[pair] is None:
            delays[pair] = left_over(starts[pair[0]], others[pair[1]])
        else:
            before, label = found[pair]
            delays[pair] = led_by_step(delays[before], label)
    return delays


def _wrong_way(one, other, steps, found, delays):
    """A pair with one or two rows of steps to it, one of which goes on to unlike words, or None.

    Two unlike delays at a live pair cannot both be made up for by what comes behind.
    """
    for pair, at_ends in zip(list(delays), _led_to_ends(one, other, delays)):
        if at_ends not in (None, ("", "")):
            return pair, (way_to(found, pair),)
        for label, after in steps[pair]:
            if led_by_step(delays[pair], label) != delays[after]:
                begin, labels = way_to(found, pair)
                return after, ((begin, labels + (label,)), way_to(found, after))
    return None


def _paper_of_two(one, other, steps, wrong):
    """The paper that one of the ways gives behind which a row of steps to ends is put."""
    pair, ways = wrong
    onward = first_ways([pair], steps)
    closing = end_pairs(one, other)
    nearest = [after for after in onward if after in closing][0]
    _, labels = way_to(onward, nearest)
    doubles = [double_of(begin, before + labels) for begin, before in ways]
    unlike = [(text, path, against) for text, path, against in doubles
              if written_by(one, path) != written_by(other, against)]
    text, path, against = unlike[0]
    return "two", text, path, against
