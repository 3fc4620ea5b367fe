"""Starts, edges and ends of any number, with words of any length."""


class Ways:
    """What a machine can be run by, as a rewriter is; it never changes."""

    def __init__(self, starts, edges, ends):
        states = list(starts) + list(ends) + [edge[0] for edge in edges] + [edge[3] for edge in edges]
        self._states = tuple(sorted(set(states)))
        self._starts = {state: starts[state] for state in sorted(list(starts))}
        self._edges = tuple(sorted(set(edges)))
        self._ends = {state: ends[state] for state in sorted(list(ends))}

    @property
    def states(self):
        """The ascending tuple of the states."""
        return self._states

    @property
    def starts(self):
        """A dict from the starts to their words."""
        return dict(self._starts)

    @property
    def edges(self):
        """The ascending tuple of the edges."""
        return self._edges

    @property
    def ends(self):
        """A dict from the ends to their words."""
        return dict(self._ends)
