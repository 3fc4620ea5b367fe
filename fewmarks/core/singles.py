"""Whether a rewriter is single, and the paper that shows it.

All functions here change only what they make themselves, since an operator uses them.
"""
from fewmarks.base.words import left_over
from fewmarks.core.doubles import double_of, double_steps, end_pairs, live_among, start_pairs
from fewmarks.core.graphs import first_ways, way_to
from fewmarks.core.trails import written_by
from fewmarks.errors import NotSingle


def check_single(rewriter):
    """Refuses a rewriter that has two results for a text."""
    paper = paper_of(rewriter)
    if paper[0] == "two":
        raise NotSingle(paper)


def paper_of(rewriter):
    """Any single paper of a rewriter."""
    steps = live_steps(rewriter)
    found = first_ways([pair for pair in start_pairs(rewriter) if pair in steps], steps)
    delays = _delays_along(rewriter, found)
    wrong = _wrong_way(rewriter, steps, found, delays)
    if wrong is not None:
        return _paper_of_two(rewriter, steps, wrong)
    return "single", {pair: delays[pair] for pair in sorted(list(delays))}


def live_steps(rewriter):
    """A dict from the live pairs, ascending, to the tuples of their steps to live pairs."""
    steps = double_steps(rewriter)
    live = {pair: True for pair in live_among(rewriter, steps)}
    return {pair: tuple([step for step in steps[pair] if step[1] in live]) for pair in live}


def led_by_step(delay, label):
    """The delay behind a step."""
    return left_over(delay[0] + label[0][2], delay[1] + label[1][2])


def led_to_end(rewriter, pair, delay):
    """The delay at a pair behind the words of its ends, or None where not both are ends."""
    ends = rewriter.ends
    if pair[0] not in ends or pair[1] not in ends:
        return None
    return left_over(delay[0] + ends[pair[0]], delay[1] + ends[pair[1]])


def _delays_along(rewriter, found):
    """For each pair the delay behind its first way."""
    starts = rewriter.starts
    delays = {}
    for pair in found:
        if found[pair] is None:
            delays[pair] = left_over(starts[pair[0]], starts[pair[1]])
        else:
            before, label = found[pair]
            delays[pair] = led_by_step(delays[before], label)
    return delays


def _wrong_way(rewriter, steps, found, delays):
    """A pair with two rows of steps to it, one of which goes on to two results, or None.

    Two unlike delays at a live pair cannot both be made up for by what comes behind.
    """
    for pair in found:
        begin, labels = way_to(found, pair)
        if led_to_end(rewriter, pair, delays[pair]) not in (None, ("", "")):
            return pair, ((begin, labels),)
        for label, after in steps[pair]:
            if led_by_step(delays[pair], label) != delays[after]:
                return after, ((begin, labels + (label,)), way_to(found, after))
    return None


def _paper_of_two(rewriter, steps, wrong):
    """The paper that one of the ways gives behind which a row of steps to ends is put."""
    pair, ways = wrong
    onward = first_ways([pair], steps)
    closing = end_pairs(rewriter)
    nearest = [after for after in onward if after in closing][0]
    _, labels = way_to(onward, nearest)
    doubles = [double_of(begin, before + labels) for begin, before in ways]
    unlike = [(text, path, other) for text, path, other in doubles
              if written_by(rewriter, path) != written_by(rewriter, other)]
    text, path, other = unlike[0]
    return "two", text, path, other
