"""Pairs of states, and steps between them: two edges that read the same letter."""
from fewmarks.core.graphs import first_ways, nodes_from, way_to


def double_steps(rewriter):
    """A dict from all pairs to the tuples of their steps, ascending.

    A step is ((edge, other edge), pair to which it leads).
    """
    states = rewriter.states
    leaving = {state: [edge for edge in rewriter.edges if edge[0] == state] for state in states}
    return {(one, two): tuple([
        ((edge, other), (edge[3], other[3]))
        for edge in leaving[one] for other in leaving[two] if edge[1] == other[1]
    ]) for one in states for two in states}


def start_pairs(rewriter):
    """The ascending list of the pairs of starts."""
    starts = rewriter.starts
    return [(one, two) for one in starts for two in starts]


def end_pairs(rewriter):
    """The ascending list of the pairs of ends."""
    ends = rewriter.ends
    return [(one, two) for one in ends for two in ends]


def reached_among(rewriter, steps):
    """The ascending list of the reached pairs."""
    return sorted(list(first_ways(start_pairs(rewriter), steps)))


def live_among(rewriter, steps):
    """The ascending list of the live pairs."""
    moves = [(after, pair) for pair in steps for _, after in steps[pair]]
    ending = nodes_from(end_pairs(rewriter), moves)
    return [pair for pair in reached_among(rewriter, steps) if pair in ending]


def double_of(begin, labels):
    """The text and both rows of edges of a row of steps from a pair."""
    edges = tuple([edge for edge, _ in labels])
    others = tuple([other for _, other in labels])
    return "".join([edge[1] for edge in edges]), (begin[0], edges), (begin[1], others)


def telling_steps(steps):
    """The steps, where with each pair it is kept whether something was written: 0 or 1."""
    return {(pair, told): tuple([
        ((edge, other), (after, 1 if edge[2] or other[2] else told))
        for (edge, other), after in steps[pair]
    ]) for pair in steps for told in (0, 1)}


def circle_from(telling, pair):
    """The steps of a shortest row from a pair back to it that writes something, or None."""
    found = first_ways([(pair, 0)], telling)
    if (pair, 1) not in found:
        return None
    _, labels = way_to(found, (pair, 1))
    return labels
