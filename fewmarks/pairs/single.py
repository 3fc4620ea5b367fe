"""Whether a rewriter has one result for each text at most, with papers for both cases."""
from fewmarks.base.rewriters import check_rewriter
from fewmarks.base.words import is_delay, left_over
from fewmarks.core.doubles import start_pairs
from fewmarks.core.kinds import is_pair_of, is_tuple_of
from fewmarks.core.singles import led_by_step, led_to_end, live_steps, paper_of
from fewmarks.core.trails import is_complete, is_trail, text_of, written_by


def is_single(rewriter):
    """Whether no text has two results."""
    check_rewriter(rewriter)
    return paper_of(rewriter)[0] == "single"


def single_paper(rewriter):
    """Any single paper: delays of all live pairs, or a text with two results."""
    check_rewriter(rewriter)
    return paper_of(rewriter)


def is_single_paper(rewriter, value):
    """Whether the value is a single paper of the rewriter."""
    check_rewriter(rewriter)
    if is_tuple_of(value, 2) and value[0] == "single":
        return _are_delays(rewriter, value[1])
    if is_tuple_of(value, 4) and value[0] == "two":
        return _are_two(rewriter, value[1], value[2], value[3])
    return False


def _are_delays(rewriter, value):
    """Whether this is a dict from just the live pairs to delays that go on as the steps do."""
    steps = live_steps(rewriter)
    # True equals 1, so the kinds of the keys are asked for before they are compared.
    if not isinstance(value, dict) or not all([is_pair_of(rewriter.states, pair) for pair in value]):
        return False
    if sorted(list(value)) != list(steps) or not all([is_delay(delay) for delay in value.values()]):
        return False
    starts = rewriter.starts
    for pair in start_pairs(rewriter):
        if pair in steps and value[pair] != left_over(starts[pair[0]], starts[pair[1]]):
            return False
    return all([_goes_on(rewriter, steps, value, pair) for pair in steps])


def _goes_on(rewriter, steps, delays, pair):
    """Whether the delay of a pair becomes those that are told where its steps lead."""
    for label, after in steps[pair]:
        if led_by_step(delays[pair], label) != delays[after]:
            return False
    return led_to_end(rewriter, pair, delays[pair]) in (None, ("", ""))


def _are_two(rewriter, text, path, other):
    """Whether these are complete paths that read the text and do not write the same."""
    for value in (path, other):
        if not is_trail(rewriter, value) or not is_complete(rewriter, value) or text_of(value[1]) != text:
            return False
    return written_by(rewriter, path) != written_by(rewriter, other)
