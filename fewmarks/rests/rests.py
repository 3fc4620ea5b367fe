"""Rests, the states from which they lead to ends, and the words that they write."""
from fewmarks.base.rewriters import check_rewriter
from fewmarks.core.checks import check_states, check_text
from fewmarks.core.places import first_texts
from fewmarks.core.runs import edges_by_end, lefts_along, sets_met
from fewmarks.core.singles import check_single
from fewmarks.errors import TooMany

_MAX_SETS = 256


def left(rewriter, rest):
    """The ascending tuple of the states from which the rest leads to ends."""
    check_rewriter(rewriter)
    check_text(rewriter, rest)
    return lefts_along(rewriter, rest)[0]


def words_ahead(rewriter, rest):
    """A dict from those states to the words that the rest writes from them."""
    check_rewriter(rewriter)
    check_text(rewriter, rest)
    check_single(rewriter)
    back = edges_by_end(rewriter)
    words = rewriter.ends
    for letter in rest[::-1]:
        words = {edge[0]: edge[2] + words[state] for state in words for edge in back.get((letter, state), ())}
    return {state: words[state] for state in sorted(list(words))}


def rest_sets(rewriter):
    """All rest sets, in the order in which they are met."""
    check_rewriter(rewriter)
    rows, _ = checked_sets(rewriter)
    return tuple(rows)


def first_rest(rewriter, states):
    """The first rest, in order, whose rest set these states are, or None."""
    check_rewriter(rewriter)
    check_states(rewriter, states)
    rows, steps = checked_sets(rewriter)
    if states not in rows:
        return None
    return first_texts(steps)[rows.index(states)]


def checked_sets(rewriter):
    """The rest sets as they are met and the steps between them; refuses more than 256."""
    rows, steps = sets_met(rewriter, _MAX_SETS)
    if len(rows) > _MAX_SETS:
        raise TooMany(_MAX_SETS)
    return rows, steps
