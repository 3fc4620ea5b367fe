"""Tables of delays that steps keep: a dict from reached pairs to ascending tuples of delays."""
from fewmarks.base.words import is_delay, left_over
from fewmarks.core.doubles import start_pairs
from fewmarks.core.graphs import nodes_from
from fewmarks.core.kinds import is_pair_of
from fewmarks.core.singles import led_by_step


def pairs_before(steps, goals):
    """The ascending list of the reached pairs that lead to some of these pairs."""
    before = nodes_from(goals, [(after, pair) for pair in steps for _, after in steps[pair]])
    return [pair for pair in steps if pair in before]


def is_table(rewriter, steps, keys, value):
    """Whether this is a dict from just these pairs to delays, closed under the steps between them."""
    states = rewriter.states
    if not isinstance(value, dict) or not all([is_pair_of(states, pair) for pair in value]):
        return False
    if sorted(list(value)) != keys:
        return False
    return all([_is_row_of_delays(row) for row in value.values()]) and _is_closed(rewriter, steps, value)


def _is_row_of_delays(value):
    """Whether this is an ascending tuple of delays."""
    if not isinstance(value, tuple) or not all([is_delay(delay) for delay in value]):
        return False
    return list(value) == sorted(set(value))


def _is_closed(rewriter, steps, table):
    """Whether the delays of starts are in the table, and steps lead all of it on to what is in it."""
    given = {(pair, delay): True for pair in table for delay in table[pair]}
    starts = rewriter.starts
    for pair in start_pairs(rewriter, rewriter):
        if pair in table and (pair, left_over(starts[pair[0]], starts[pair[1]])) not in given:
            return False
    for pair in table:
        inner = [(label, after) for label, after in steps[pair] if after in table]
        if not all([(after, led_by_step(delay, label)) in given for delay in table[pair] for label, after in inner]):
            return False
    return True
