"""What rewriters become by operations: letters, starts, edges and ends.

Only what stands on complete paths is kept, and there may be more of it than a rewriter
can have. All functions here change only what they make themselves.
"""
from fewmarks.core.graphs import nodes_between
from fewmarks.core.runs import edges_by_start


def turned_parts(rewriter):
    """Texts and results are written backwards."""
    starts, ends = rewriter.starts, rewriter.ends
    edges = [(after, letter, word[::-1], state) for state, letter, word, after in rewriter.edges]
    return (rewriter.letters, {state: ends[state][::-1] for state in ends},
            tuple(edges), {state: starts[state][::-1] for state in starts})


def chosen_parts(one, other):
    """The results of both: the states of the second one are numbered behind the first ones."""
    first = list(one.states)
    second = list(other.states)
    numbers = {state: at for at, state in enumerate(first)}
    others = {state: len(first) + at for at, state in enumerate(second)}
    starts, other_starts = _moved(one.starts, numbers), _moved(other.starts, others)
    ends, other_ends = _moved(one.ends, numbers), _moved(other.ends, others)
    edges = _moved_edges(one.edges, numbers) + _moved_edges(other.edges, others)
    return one.letters, {**starts, **other_starts}, edges, {**ends, **other_ends}


def behind_parts(one, other):
    """The result of the second one for the result of the first one; both are single."""
    steps = edges_by_start(other)
    begins = tuple(other.starts.items())
    starts = {(state, after): written for state, word in one.starts.items()
              for after, written in _ways(steps, begins, word)}
    edges = []
    for state, letter, word, goal in one.edges:
        for inner in other.states:
            for after, written in _ways(steps, ((inner, ""),), word):
                edges.append(((state, inner), letter, written, (goal, after)))
    closing = other.ends
    ends = {(state, inner): written + closing[after]
            for state, word in one.ends.items() for inner in other.states
            for after, written in _ways(steps, ((inner, ""),), word) if after in closing}
    return numbered_parts(one.letters, starts, edges, ends)


def numbered_parts(letters, starts, edges, ends):
    """Only what stands on complete paths, with states numbered from 0 on, ascending."""
    useful = nodes_between(starts, [(edge[0], edge[3]) for edge in edges], ends)
    numbers = {state: at for at, state in enumerate(useful)}
    return letters, _moved(starts, numbers), _moved_edges(edges, numbers), _moved(ends, numbers)


def _ways(steps, begins, word):
    """All pairs (state, written) behind a word, from some of these pairs."""
    now = begins
    for letter in word:
        now = tuple(sorted({(edge[3], written + edge[2]) for state, written in now
                            for edge in steps.get((state, letter), ())}))
    return now


def _moved(table, numbers):
    """A dict from states to words, for those states that have a number."""
    return {numbers[state]: table[state] for state in table if state in numbers}


def _moved_edges(edges, numbers):
    """The different edges between states that have a number, ascending."""
    return tuple(sorted({(numbers[state], letter, word, numbers[after])
                         for state, letter, word, after in edges
                         if state in numbers and after in numbers}))
