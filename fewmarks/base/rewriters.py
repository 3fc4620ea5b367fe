"""Rewriters: they read texts letter by letter along edges, and write words."""
from fewmarks.base.words import is_letters, is_word, sorted_words
from fewmarks.core.checks import check_letter, check_state, check_states, check_text
from fewmarks.core.graphs import nodes_between
from fewmarks.core.joins import behind_parts, chosen_parts, turned_parts
from fewmarks.core.kinds import is_below, is_edge_of, is_integer, is_letter_of, is_tuple_of
from fewmarks.core.runs import edges_by_end, edges_by_start, has_result, some_results, sources_of, targets_of
from fewmarks.core.singles import check_single
from fewmarks.errors import InvalidOperation, InvalidRewriter, TooMany

MAX_STATES = 12
MAX_EDGES = 64
MAX_WORD = 8

_MAX_RESULTS = 1000


class Rewriter:
    """A rewriter, from which what stands on no complete path is left out; it never changes."""

    def __init__(self, letters, starts, edges, ends):
        if not is_letters(letters):
            raise InvalidRewriter("not an ascending string of one to four letters")
        if not _is_table(starts) or not _is_table(ends):
            raise InvalidRewriter("not a dict from states to words")
        if not _are_edges(letters, edges):
            raise InvalidRewriter("not a tuple of at most 64 different edges")
        useful = nodes_between(starts, [(edge[0], edge[3]) for edge in edges], ends)
        self._letters = letters
        self._states = tuple(useful)
        self._starts = {state: starts[state] for state in useful if state in starts}
        self._edges = tuple([edge for edge in sorted(set(edges)) if edge[0] in useful and edge[3] in useful])
        self._ends = {state: ends[state] for state in useful if state in ends}

    @classmethod
    def copying(cls, letters):
        """The rewriter whose results are the texts themselves."""
        if not is_letters(letters):
            raise InvalidRewriter("not an ascending string of one to four letters")
        edges = [(0, letter, letter, 0) for letter in letters]
        return cls(letters, {0: ""}, tuple(edges), {0: ""})

    @property
    def letters(self):
        """The letters that texts may have."""
        return self._letters

    @property
    def states(self):
        """The ascending tuple of the states."""
        return self._states

    @property
    def starts(self):
        """A dict from the starts to their words."""
        return dict(self._starts)

    @property
    def edges(self):
        """The ascending tuple of the edges."""
        return self._edges

    @property
    def ends(self):
        """A dict from the ends to their words."""
        return dict(self._ends)

    def __call__(self, text):
        """The tuple of the results of a text, in order."""
        check_text(self, text)
        found = some_results(self, text, _MAX_RESULTS)
        if found is None:
            raise TooMany(_MAX_RESULTS)
        return sorted_words(found)

    def __contains__(self, value):
        return is_word(value) and has_result(self, value)

    def __getitem__(self, state):
        check_state(self, state)
        return tuple([edge for edge in self._edges if edge[0] == state])

    def __iter__(self):
        return iter(self._edges)

    def targets(self, states, letter):
        """The states to which edges with a letter lead from some states."""
        check_states(self, states)
        check_letter(self, letter)
        return targets_of(edges_by_start(self), states, letter)

    def sources(self, states, letter):
        """The states from which edges with a letter lead to some states."""
        check_states(self, states)
        check_letter(self, letter)
        return sources_of(edges_by_end(self), states, letter)

    def with_edge(self, edge):
        """The rewriter with one edge more."""
        return Rewriter(self._letters, self._starts, self._edges + (edge,), self._ends)

    def without_edge(self, edge):
        """The rewriter with one edge less."""
        if not is_edge_of(self._edges, edge):
            raise InvalidOperation("not an edge of the rewriter")
        edges = [kept for kept in self._edges if kept != edge]
        return Rewriter(self._letters, self._starts, tuple(edges), self._ends)

    def renumbered(self, numbers):
        """The rewriter with other states, told by a dict from just its states."""
        if not _is_numbering(self._states, numbers):
            raise InvalidOperation("not a dict from just the states to different states")
        edges = [(numbers[state], letter, word, numbers[after]) for state, letter, word, after in self._edges]
        starts = {numbers[state]: self._starts[state] for state in self._starts}
        ends = {numbers[state]: self._ends[state] for state in self._ends}
        return Rewriter(self._letters, starts, tuple(edges), ends)

    def silent(self):
        """The rewriter that has no letters in its words."""
        edges = [(state, letter, "", after) for state, letter, _, after in self._edges]
        starts = {state: "" for state in self._starts}
        ends = {state: "" for state in self._ends}
        return Rewriter(self._letters, starts, tuple(edges), ends)

    def __or__(self, other):
        check_rewriter(other)
        if self._letters != other.letters:
            raise InvalidOperation("unlike letters")
        return made(chosen_parts(self, other))

    def __rshift__(self, other):
        check_rewriter(other)
        check_single(self)
        check_single(other)
        return made(behind_parts(self, other))

    def __invert__(self):
        return made(turned_parts(self))

    def __len__(self):
        return len(self._edges)

    def __bool__(self):
        return bool(self._states)

    def __eq__(self, other):
        return (isinstance(other, Rewriter) and self._letters == other._letters
                and self._states == other._states and self._starts == other._starts
                and self._edges == other._edges and self._ends == other._ends)

    def __str__(self):
        return f"rewriter of {len(self._states)} states, {len(self._edges)} edges"


def check_rewriter(value):
    """Refuses what is no rewriter."""
    if not isinstance(value, Rewriter):
        raise InvalidRewriter("not a rewriter")


def made(parts):
    """The rewriter of these parts, of which nothing is left out any more."""
    letters, starts, edges, ends = parts
    states = list(starts) + list(ends) + [edge[0] for edge in edges] + [edge[3] for edge in edges]
    words = list(starts.values()) + list(ends.values()) + [edge[2] for edge in edges]
    if len(set(states)) > MAX_STATES:
        raise TooMany(MAX_STATES)
    if len(set(edges)) > MAX_EDGES:
        raise TooMany(MAX_EDGES)
    if any([len(word) > MAX_WORD for word in words]):
        raise TooMany(MAX_WORD)
    return Rewriter(letters, starts, edges, ends)


def _is_short(value):
    """Whether this is a word of a rewriter."""
    return is_word(value) and len(value) <= MAX_WORD


def _is_table(value):
    """Whether this is a dict from states to words."""
    if not isinstance(value, dict):
        return False
    return all([is_below(state, MAX_STATES) and _is_short(word) for state, word in value.items()])


def _is_edge(letters, value):
    """Whether a rewriter with these letters can have this edge."""
    if not is_tuple_of(value, 4):
        return False
    state, letter, word, after = value
    return (is_below(state, MAX_STATES) and is_letter_of(letters, letter)
            and _is_short(word) and is_below(after, MAX_STATES))


def _are_edges(letters, value):
    """Whether this is a tuple of edges, not too many of which are different."""
    if not isinstance(value, tuple) or not all([_is_edge(letters, edge) for edge in value]):
        return False
    return len(set(value)) <= MAX_EDGES


def _is_numbering(states, value):
    """Whether this is a dict from just these states to different states."""
    if not isinstance(value, dict) or not all([is_integer(state) for state in value]):
        return False
    numbers = list(value.values())
    if sorted(list(value)) != list(states) or not all([is_below(number, MAX_STATES) for number in numbers]):
        return False
    return len(set(numbers)) == len(numbers)
