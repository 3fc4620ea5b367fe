"""Two-pass machines: marks from the right, and a writer that reads letters and marks from the left."""
from fewmarks.base.rewriters import check_rewriter, made
from fewmarks.base.words import is_word
from fewmarks.core.checks import check_text
from fewmarks.core.classes import same_classes
from fewmarks.core.joins import numbered_parts
from fewmarks.core.kinds import is_below, is_integer, is_tuple_of
from fewmarks.core.places import MarkPlaces, SetPlaces, are_pairs, pairs_or_text
from fewmarks.core.runs import one_result
from fewmarks.core.singles import are_delays, check_single, paper_between
from fewmarks.core.ways import Ways
from fewmarks.errors import InvalidMachine, InvalidNumber, InvalidOperation, TooMany
from fewmarks.machines.marks import check_marks, mapped, marks_along
from fewmarks.rests.rests import checked_sets

MAX_WRITER = 1000


class TwoPass:
    """A two-pass machine; it never changes."""

    def __init__(self, marks, *, begins, steps, ends):
        check_marks(marks)
        if not _are_begins(marks, begins) or not _are_steps(steps) or not are_ends(ends):
            raise InvalidMachine("not begins, steps and ends of a writer")
        marked = _marks_of_states(marks, begins, steps)
        if not _is_whole(marks, marked, steps, ends):
            raise InvalidMachine("a step, an end or a state less or more, or a wrong mark")
        self._marks = marks
        self._letters = marks.letters
        self._begins = {mark: begins[mark] for mark in marks.good}
        self._steps = {triple: steps[triple] for triple in sorted(list(steps))}
        self._ends = {state: ends[state] for state in sorted(list(ends))}
        self._marked = marked
        self._ahead = marks.steps
        self._states = tuple(sorted(list(marked)))
        self._many = len(marks)

    @property
    def marks(self):
        """The marks, a `Marks`."""
        return self._marks

    @property
    def letters(self):
        """The letters that texts may have."""
        return self._letters

    @property
    def begins(self):
        """A dict from the good marks to pairs (word, state)."""
        return dict(self._begins)

    @property
    def steps(self):
        """A dict from triples (state, letter, mark behind it) to pairs (word, state)."""
        return {triple: self._steps[triple] for triple in self._steps}

    @property
    def ends(self):
        """A dict from the states for the mark 0 to words."""
        return dict(self._ends)

    @property
    def states(self):
        """The ascending tuple of the states."""
        return self._states

    def __call__(self, text):
        """The result of a text, or None."""
        words = [word for word, _ in self.walk(text)]
        return "".join(words) if words else None

    def walk(self, text):
        """A generator of what is written for a text: (word, state), at last (word, None)."""
        check_text(self, text)
        row = marks_along(self._ahead, text)
        if row[0] in self._begins:
            word, state = self._begins[row[0]]
            yield (word, state)
            for at, letter in enumerate(text):
                word, state = self._steps[(state, letter, row[at + 1])]
                yield (word, state)
            yield (self._ends[state], None)

    def mark_of(self, state):
        """The mark of a state."""
        if not is_integer(state) or state not in self._marked:
            raise InvalidNumber(state)
        return self._marked[state]

    def numbered(self):
        """The machine with its states numbered as met."""
        return built(self._marks, self._begins, self._steps, self._ends)

    def rewriter(self):
        """The rewriter with these states, in which begins are starts and steps are edges."""
        ways = ways_of(self)
        return made(numbered_parts(self._letters, ways.starts, ways.edges, ways.ends))

    def __len__(self):
        return len(self._states)

    def __bool__(self):
        return bool(self._begins)

    def __eq__(self, other):
        return (isinstance(other, TwoPass) and self._marks == other._marks and self._begins == other._begins
                and self._steps == other._steps and self._ends == other._ends)

    def __str__(self):
        return f"two passes with {self._many} marks and {len(self._states)} states"


def refined(machine, marks):
    """The machine with finer marks, and the same words."""
    check_machine(machine)
    check_marks(marks)
    if machine.letters != marks.letters:
        raise InvalidOperation("unlike letters")
    image = mapped(marks, machine.marks)
    if image is None or not same_good(marks, machine.marks, image):
        raise InvalidOperation("not marks that are finer than those of the machine")
    begins = {mark: _paired(machine.begins[image[mark]], mark) for mark in marks.good}
    words = machine.ends
    steps = _refined_steps(machine, marks, image, begins)
    met = sorted({pair for _, pair in list(begins.values()) + list(steps.values())})
    return built(marks, begins, steps, {pair: words[pair[0]] for pair in met if pair[1] == 0})


def does(machine, rewriter):
    """Whether the machine does the rewriter."""
    return machine_paper(machine, rewriter)[0] == "does"


def machine_paper(machine, rewriter):
    """Any machine paper: closed tables, or a text for which machine and rewriter are not the same."""
    _check_both(machine, rewriter)
    told = pairs_or_text(machine.letters, MarkPlaces(machine.marks), SetPlaces(rewriter), _last_places(rewriter))
    if told[0] == "text":
        return "fails", told[1]
    paper = paper_between(rewriter, ways_of(machine))
    if paper[0] == "two":
        return "fails", paper[1]
    return "does", told[1], paper[1]


def is_machine_paper(machine, rewriter, value):
    """Whether the value is a machine paper of the two."""
    _check_both(machine, rewriter)
    if is_tuple_of(value, 3) and value[0] == "does":
        places, sets = MarkPlaces(machine.marks), SetPlaces(rewriter)
        return (are_pairs(machine.letters, places, sets, _last_places(rewriter), value[1])
                and are_delays(rewriter, ways_of(machine), value[2]))
    if is_tuple_of(value, 2) and value[0] == "fails" and is_word(value[1]):
        return result_by(machine, value[1]) != one_result(rewriter, value[1])
    return False


def check_machine(value):
    """Refuses what is no two-pass machine."""
    if not isinstance(value, TwoPass):
        raise InvalidMachine("not a two-pass machine")


def result_by(machine, text):
    """The result of a text of any length and any letters, or None."""
    if text.strip(machine.letters) != "":
        return None
    row = marks_along(machine.marks.steps, text)
    begins, steps = machine.begins, machine.steps
    if row[0] not in begins:
        return None
    word, state = begins[row[0]]
    words = [word]
    for at, letter in enumerate(text):
        word, state = steps[(state, letter, row[at + 1])]
        words.append(word)
    return "".join(words) + machine.ends[state]


def ways_of(machine):
    """What the machine is without its marks: begins are starts, and steps are edges."""
    starts = {state: word for word, state in machine.begins.values()}
    edges = [(state, letter, word, after) for (state, letter, _), (word, after) in machine.steps.items()]
    return Ways(starts, edges, machine.ends)


def same_good(marks, other, image):
    """Whether just those marks are good that are mapped to good ones."""
    return all([(mark in marks.good) == (image[mark] in other.good) for mark in marks])


def built(marks, begins, steps, ends):
    """The machine of a writer with states of any kind, which are numbered as met."""
    numbers = {}
    for mark in sorted(list(begins)):
        numbers.setdefault(begins[mark][1], len(numbers))
    onward = {}
    for triple in sorted(list(steps)):
        onward.setdefault(triple[0], []).append(steps[triple][1])
    row = list(numbers)
    at = 0
    while at < len(row):
        state = row[at]
        for after in onward.get(state, ()):
            if after not in numbers:
                numbers[after] = len(numbers)
                row.append(after)
        at += 1
    return TwoPass(marks, begins={mark: (word, numbers[state]) for mark, (word, state) in begins.items()},
                   steps={(numbers[state], letter, mark): (word, numbers[after])
                          for (state, letter, mark), (word, after) in steps.items()},
                   ends={numbers[state]: word for state, word in ends.items()})


def fewest(marks, nodes, begins, steps, ends):
    """The machine of a writer whose nodes are pairs (mark, ..), with the fewest states, numbered as met.

    Nodes for one mark that write the same from there on become one state. `begins`, `steps` and `ends`
    are those of a machine, with nodes in the place of states.
    """
    onward = {node: [steps[(node, letter, behind)] for letter, behind in marks[node[0]]] for node in nodes}
    kinds = {node: (node[0], tuple([word for word, _ in onward[node]]), ends.get(node, "")) for node in nodes}
    merged = same_classes(kinds, {node: [after for _, after in onward[node]] for node in nodes})
    return built(marks, {mark: (word, merged[node]) for mark, (word, node) in begins.items()},
                 {(merged[node], letter, behind): (word, merged[after])
                  for (node, letter, behind), (word, after) in steps.items()},
                 {merged[node]: word for node, word in ends.items()})


def _paired(step, mark):
    """A step that leads to a pair of a state and a finer mark."""
    word, state = step
    return word, (state, mark)


def _refined_steps(machine, marks, image, begins):
    """The steps between the pairs of a state and a finer mark that are met."""
    known = machine.steps
    row = [begins[mark][1] for mark in begins]
    seen = {pair: True for pair in row}
    steps = {}
    at = 0
    while at < len(row):
        if len(row) > MAX_WRITER:
            raise TooMany(MAX_WRITER)
        state, mark = row[at]
        for letter, behind in marks[mark]:
            step = _paired(known[(state, letter, image[behind])], behind)
            steps[(row[at], letter, behind)] = step
            if step[1] not in seen:
                seen[step[1]] = True
                row.append(step[1])
        at += 1
    return steps


def _check_both(machine, rewriter):
    check_machine(machine)
    check_rewriter(rewriter)
    if machine.letters != rewriter.letters:
        raise InvalidOperation("unlike letters")
    check_single(rewriter)
    checked_sets(rewriter)


def _last_places(rewriter):
    """The mark and the rest set of the rest without letters."""
    return 0, tuple(rewriter.ends)


def _is_state(value):
    """Whether a writer can have this state."""
    return is_below(value, MAX_WRITER)


def is_step(value):
    """Whether this is a pair of a word and a state."""
    return is_tuple_of(value, 2) and is_word(value[0]) and _is_state(value[1])


def _are_begins(marks, value):
    """Whether this is a dict from just the good marks to pairs of a word and a state."""
    if not isinstance(value, dict) or not all([is_integer(mark) for mark in value]):
        return False
    return sorted(list(value)) == list(marks.good) and all([is_step(step) for step in value.values()])


def _are_steps(value):
    """Whether this is a dict from triples (state, .., integer) to pairs of a word and a state."""
    if not isinstance(value, dict):
        return False
    return all([is_tuple_of(triple, 3) and _is_state(triple[0]) and is_integer(triple[2])
                and is_step(step) for triple, step in value.items()])


def are_ends(value):
    """Whether this is a dict from states to words."""
    if not isinstance(value, dict):
        return False
    return all([_is_state(state) and is_word(word) for state, word in value.items()])


def _marks_of_states(marks, begins, steps):
    """The marks that begins and steps give to the states that are met, or None if one gets two or lacks a step."""
    marked = {}
    waiting = [(step[1], mark) for mark, step in begins.items()]
    while waiting:
        state, mark = waiting.pop()
        if marked.get(state, mark) != mark:
            return None
        if state not in marked:
            marked[state] = mark
            onward = [(state, letter, behind) for letter, behind in marks[mark]]
            if not all([triple in steps for triple in onward]):
                return None
            waiting.extend([(steps[triple][1], triple[2]) for triple in onward])
    return marked


def _is_whole(marks, marked, steps, ends):
    """Whether no step, state or end is there that should not be, and no end is missing."""
    if marked is None or len(steps) != sum([len(marks[mark]) for mark in marked.values()]):
        return False
    return sorted(list(ends)) == sorted([state for state in marked if marked[state] == 0])
