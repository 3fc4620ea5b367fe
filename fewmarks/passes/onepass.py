"""One pass: writers that read letters alone, and which rewriters can be run so."""
from fewmarks.base.rewriters import check_rewriter, made
from fewmarks.base.words import is_letters
from fewmarks.core.checks import check_text
from fewmarks.core.classes import same_classes
from fewmarks.core.doubles import loud_among, reached_steps
from fewmarks.core.graphs import all_leads, nodes_between
from fewmarks.core.joins import numbered_parts
from fewmarks.core.kinds import is_below, is_letter_of, is_tuple_of
from fewmarks.core.singles import check_single
from fewmarks.core.spreads import Spreads
from fewmarks.core.tables import is_table, pairs_before
from fewmarks.core.wilds import closed_delays
from fewmarks.errors import InvalidMachine, NeedsMarks, TooMany
from fewmarks.machines.machines import MAX_WRITER, are_ends, is_step
from fewmarks.machines.marks import Marks
from fewmarks.rests.forks import fork_of, is_fork_for


class OnePass:
    """A one-pass writer; it never changes."""

    def __init__(self, letters, *, begin, steps, ends):
        if not is_letters(letters):
            raise InvalidMachine("not an ascending string of one to four letters")
        if begin is not None and not is_step(begin):
            raise InvalidMachine("neither None nor a pair of a word and a state")
        if not _are_steps(letters, steps) or not are_ends(ends):
            raise InvalidMachine("not steps and ends of a writer")
        states = _all_states(begin, steps, ends)
        begins = [] if begin is None else [begin[1]]
        if nodes_between(begins, [(pair[0], step[1]) for pair, step in steps.items()], ends) != states:
            raise InvalidMachine("a state that is not met, or that leads to no end")
        self._letters = letters
        self._begin = begin
        self._steps = {pair: steps[pair] for pair in sorted(list(steps))}
        self._ends = {state: ends[state] for state in sorted(list(ends))}
        self._states = tuple(states)

    @property
    def letters(self):
        """The letters that texts may have."""
        return self._letters

    @property
    def begin(self):
        """The pair (word, state) with which the writer begins, or None."""
        return self._begin

    @property
    def steps(self):
        """A dict from pairs (state, letter) to pairs (word, state)."""
        return {pair: self._steps[pair] for pair in self._steps}

    @property
    def ends(self):
        """A dict from some states to words."""
        return dict(self._ends)

    @property
    def states(self):
        """The ascending tuple of the states."""
        return self._states

    def __call__(self, text):
        """The result of a text, or None."""
        words = [word for word, _ in self.walk(text)]
        return "".join(words) if words else None

    def walk(self, text):
        """A generator of what is written for a text: (word, state), at last (word, None)."""
        check_text(self, text)
        for pair in _walked(self._begin, self._steps, self._ends, text):
            yield pair

    def rewriter(self):
        """The rewriter with these states, numbered in ascending order."""
        starts = {} if self._begin is None else {self._begin[1]: self._begin[0]}
        edges = [(state, letter, word, after) for (state, letter), (word, after) in self._steps.items()]
        return made(numbered_parts(self._letters, starts, edges, self._ends))

    def __len__(self):
        return len(self._states)

    def __bool__(self):
        return bool(self._states)

    def __eq__(self, other):
        return (isinstance(other, OnePass) and self._letters == other._letters and self._begin == other._begin
                and self._steps == other._steps and self._ends == other._ends)

    def __str__(self):
        return f"one pass with {len(self._states)} states"


def is_one_pass(rewriter):
    """Whether there is a one-pass writer with the results of the rewriter."""
    return _fork_of_single(rewriter) is None


def one_pass(rewriter):
    """The early one-pass writer with the results of the rewriter."""
    found = _fork_of_single(rewriter)
    if found is not None:
        raise NeedsMarks(found)
    spreads = Spreads(rewriter, _one_mark(rewriter.letters))
    begin, steps, nodes = _all_wide(spreads, rewriter.letters)
    if begin is None:
        return OnePass(rewriter.letters, begin=None, steps={}, ends={})
    sure = {node: spreads.sure(0, node) for node in nodes}
    steps = {pair: ((word + sure[after])[len(sure[pair[0]]):], after) for pair, (word, after) in steps.items()}
    words = {node: spreads.at_end(node) for node in nodes}
    ends = {node: words[node][len(sure[node]):] for node in nodes if words[node] is not None}
    word, first = begin
    return _fewest_states(rewriter.letters, (word + sure[first], first), steps, ends, nodes)


def once_paper(rewriter):
    """Any one-pass paper: a closed table, or a fork for all states."""
    found = _fork_of_single(rewriter)
    if found is not None:
        return "fork", found
    steps = reached_steps(rewriter)
    return "once", closed_delays(rewriter, steps, _pairs_before_loud(steps))


def is_once_paper(rewriter, value):
    """Whether the value is a one-pass paper of the rewriter."""
    check_rewriter(rewriter)
    check_single(rewriter)
    if not is_tuple_of(value, 2):
        return False
    kind, shown = value
    if kind == "once":
        steps = reached_steps(rewriter)
        return is_table(rewriter, steps, _pairs_before_loud(steps), shown)
    return kind == "fork" and is_fork_for(rewriter, rewriter.states, rewriter.states, shown)


def check_writer(value):
    """Refuses what is no one-pass writer."""
    if not isinstance(value, OnePass):
        raise InvalidMachine("not a one-pass writer")


def _are_steps(letters, value):
    """Whether this is a dict from pairs of a state and a letter to pairs of a word and a state."""
    if not isinstance(value, dict):
        return False
    return all([is_tuple_of(pair, 2) and is_below(pair[0], MAX_WRITER) and is_letter_of(letters, pair[1])
                and is_step(step) for pair, step in value.items()])


def _all_states(begin, steps, ends):
    """The ascending list of all states that are named."""
    named = [] if begin is None else [begin[1]]
    named = named + list(ends) + [pair[0] for pair in steps] + [step[1] for step in steps.values()]
    return sorted(set(named))


def _walked(begin, steps, ends, text):
    """The pairs (word, state) that a text leads to, with that of the end, or none without a result."""
    if begin is None:
        return []
    rows = [begin]
    for letter in text:
        step = steps.get((rows[-1][1], letter))
        if step is None:
            return []
        rows.append(step)
    if rows[-1][1] not in ends:
        return []
    return rows + [(ends[rows[-1][1]], None)]


def _fork_of_single(rewriter):
    """Any fork for all states of a single rewriter, or None."""
    check_rewriter(rewriter)
    check_single(rewriter)
    return fork_of(rewriter, rewriter.states, rewriter.states)


def _one_mark(letters):
    """Marks that do not tell one rest from another one."""
    return Marks(letters, {(letter, 0): 0 for letter in letters}, (0,))


def _all_wide(spreads, letters):
    """The begin, the steps and the states of a writer whose states are the wide spreads."""
    begin = spreads.at_begin(0)
    row = [] if begin is None else [begin[1]]
    seen = {node: True for node in row}
    steps = {}
    at = 0
    while at < len(row):
        if len(row) > MAX_WRITER:
            raise TooMany(MAX_WRITER)
        for letter in letters:
            step = spreads.behind(row[at], letter, 0)
            if step is not None:
                steps[(row[at], letter)] = step
                if step[1] not in seen:
                    seen[step[1]] = True
                    row.append(step[1])
        at += 1
    return begin, steps, row


def _fewest_states(letters, begin, steps, ends, nodes):
    """The writer in which nodes that do the same from there on are one state, numbered as told."""
    onward = {node: [letter for letter in letters if (node, letter) in steps] for node in nodes}
    kinds = {node: (tuple([(letter, steps[(node, letter)][0]) for letter in onward[node]]), ends.get(node))
             for node in nodes}
    merged = same_classes(kinds, {node: [steps[(node, letter)][1] for letter in onward[node]] for node in nodes})
    # Nodes are in the order in which they are met from the begin, and so are the classes.
    return OnePass(letters, begin=(begin[0], merged[begin[1]]),
                   steps={(merged[node], letter): (word, merged[after])
                          for (node, letter), (word, after) in steps.items()},
                   ends={merged[node]: word for node, word in ends.items()})


def _pairs_before_loud(steps):
    """The reached pairs that lead to a loud pair."""
    return pairs_before(steps, loud_among(steps, all_leads(steps)))
