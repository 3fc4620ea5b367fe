"""Pairs of a state of the one and a state of the other, perhaps of one rewriter twice.

A step of a pair is two edges that read the same letter. All functions here change only
what they make themselves, since operators use them.
"""
from fewmarks.core.graphs import first_ways, nodes_from, way_to
from fewmarks.core.runs import edges_by_state


def double_steps(one, other):
    """A dict from all pairs to the tuples of their steps, ascending.

    A step is ((edge, other edge), pair to which it leads).
    """
    leaving, others = edges_by_state(one), edges_by_state(other)
    return {(state, beside): tuple([
        ((edge, against), (edge[3], against[3]))
        for edge in leaving.get(state, ()) for against in others.get(beside, ()) if edge[1] == against[1]
    ]) for state in one.states for beside in other.states}


def start_pairs(one, other):
    """The ascending list of the pairs of starts."""
    starts, others = one.starts, other.starts
    return [(state, beside) for state in starts for beside in others]


def end_pairs(one, other):
    """The ascending list of the pairs of ends."""
    ends, others = one.ends, other.ends
    return [(state, beside) for state in ends for beside in others]


def reached_among(one, other, steps):
    """The ascending list of the reached pairs."""
    return sorted(list(first_ways(start_pairs(one, other), steps)))


def reached_steps(rewriter):
    """The steps of just the reached pairs of one rewriter, which lead to such pairs."""
    steps = double_steps(rewriter, rewriter)
    return {pair: steps[pair] for pair in reached_among(rewriter, rewriter, steps)}


def live_among(one, other, steps):
    """The ascending list of the live pairs."""
    moves = [(after, pair) for pair in steps for _, after in steps[pair]]
    ending = nodes_from(end_pairs(one, other), moves)
    return [pair for pair in reached_among(one, other, steps) if pair in ending]


def loud_among(steps, leads):
    """The ascending list of the loud pairs of one rewriter.

    `steps` are those of the reached pairs, `leads` tells to which pairs each of them leads.
    """
    telling = [pair for pair in steps if _writes_on_the_way_back(steps, leads, pair)]
    return [pair for pair in steps if any([after in leads[pair] and pair in leads[after] for after in telling])]


def double_of(begin, labels):
    """The text and both rows of edges of a row of steps from a pair."""
    edges = tuple([edge for edge, _ in labels])
    others = tuple([other for _, other in labels])
    return "".join([edge[1] for edge in edges]), (begin[0], edges), (begin[1], others)


def circle_from(steps, pair):
    """The steps of a shortest row from a pair back to it that writes something, or None."""
    found = first_ways([(pair, 0)], _noting_steps(steps))
    if (pair, 1) not in found:
        return None
    _, labels = way_to(found, (pair, 1))
    return labels


def _noting_steps(steps):
    """The steps, where with each pair it is noted whether something was written: 0 or 1."""
    return {(pair, noted): tuple([
        ((edge, other), (after, 1 if edge[2] or other[2] else noted))
        for (edge, other), after in steps[pair]
    ]) for pair in steps for noted in (0, 1)}


def _writes_on_the_way_back(steps, leads, pair):
    """Whether a step of a pair writes something and leads to where the pair can be met again."""
    return any([(edge[2] or other[2]) and pair in leads[after] for (edge, other), after in steps[pair]])
