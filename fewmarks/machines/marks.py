"""Marks: machines that go over a text from the right, and the least ones for a rewriter."""
from fewmarks.base.rewriters import check_rewriter
from fewmarks.base.words import is_letters
from fewmarks.core.checks import check_text
from fewmarks.core.classes import same_classes
from fewmarks.core.doubles import reached_steps
from fewmarks.core.graphs import nodes_from
from fewmarks.core.kinds import is_below, is_letter_of, is_row_of, is_tuple_of
from fewmarks.core.places import first_texts
from fewmarks.core.runs import lefts_along
from fewmarks.core.singles import check_single
from fewmarks.core.wilds import lassos, wild_among
from fewmarks.errors import InvalidMachine, InvalidNumber, InvalidOperation
from fewmarks.rests.rests import checked_sets

MAX_MARKS = 256


class Marks:
    """Marks, each of which is that of some rest; they never change."""

    def __init__(self, letters, steps, good):
        if not is_letters(letters):
            raise InvalidMachine("not an ascending string of one to four letters")
        if not _are_steps(letters, steps):
            raise InvalidMachine("not a dict from pairs of a letter and a mark to marks")
        many = len(steps) // len(letters)
        if len(nodes_from([0], [(pair[1], mark) for pair, mark in steps.items()])) != many:
            raise InvalidMachine("a mark that no rest has")
        self._numbers = tuple(range(many))
        if not is_row_of(self._numbers, good):
            raise InvalidMachine("not an ascending tuple of marks")
        self._letters = letters
        self._steps = {pair: steps[pair] for pair in sorted(list(steps))}
        self._good = good
        self._into = _pairs_into(self._steps)

    @property
    def letters(self):
        """The letters that texts may have."""
        return self._letters

    @property
    def steps(self):
        """A dict from pairs (letter, mark of the rest behind it) to marks."""
        return {pair: self._steps[pair] for pair in self._steps}

    @property
    def good(self):
        """The ascending tuple of the good marks."""
        return self._good

    def __call__(self, rest):
        """The mark of a rest."""
        check_text(self, rest)
        return marks_along(self._steps, rest)[0]

    def row(self, text):
        """The tuple of the marks of all rests of a text, that of the whole first."""
        check_text(self, text)
        return marks_along(self._steps, text)

    def first_rest(self, mark):
        """The first rest, in order, that has a mark."""
        if not is_below(mark, len(self._numbers)):
            raise InvalidNumber(mark)
        return first_texts(self._steps)[mark]

    def met(self):
        """The same marks, numbered in the order in which they are met."""
        numbers = _order_met(self._letters, self._steps)
        steps = {(letter, numbers[mark]): numbers[after] for (letter, mark), after in self._steps.items()}
        return Marks(self._letters, steps, tuple(sorted([numbers[mark] for mark in self._good])))

    def __getitem__(self, mark):
        if not is_below(mark, len(self._numbers)):
            raise InvalidNumber(mark)
        return self._into[mark]

    def __iter__(self):
        return iter(self._numbers)

    def __len__(self):
        return len(self._numbers)

    def __eq__(self, other):
        return (isinstance(other, Marks) and self._letters == other._letters
                and self._steps == other._steps and self._good == other._good)

    def __str__(self):
        return f"{len(self._numbers)} marks, {len(self._good)} good"


def least_marks(rewriter):
    """The classes of alike rests as marks, numbered in the order in which they are met."""
    check_rewriter(rewriter)
    marks, _ = classes_of_rests(rewriter)
    return marks


def class_of(rewriter, rest):
    """The mark of a rest among the least marks."""
    check_rewriter(rewriter)
    check_text(rewriter, rest)
    _, numbers = classes_of_rests(rewriter)
    return numbers[lefts_along(rewriter, rest)[0]]


def map_of(marks, other):
    """A dict from all marks of the one to marks of the other, letter by letter, or None."""
    check_marks(marks)
    check_marks(other)
    if marks.letters != other.letters:
        raise InvalidOperation("unlike letters")
    return mapped(marks, other)


def check_marks(value):
    """Refuses what is no marks."""
    if not isinstance(value, Marks):
        raise InvalidMachine("not marks")


def marks_along(steps, text):
    """The tuple of the marks of all rests of a text of any length."""
    row = [0]
    for letter in text[::-1]:
        row.append(steps[(letter, row[-1])])
    return tuple(row[::-1])


def mapped(marks, other):
    """The map of marks to others with the same letters, or None."""
    steps, others = marks.steps, other.steps
    found = {0: 0}
    waiting = [0]
    while waiting:
        mark = waiting.pop()
        for letter in marks.letters:
            after, image = steps[(letter, mark)], others[(letter, found[mark])]
            if after not in found:
                found[after] = image
                waiting.append(after)
            elif found[after] != image:
                return None
    return {mark: found[mark] for mark in marks}


def classes_of_rests(rewriter):
    """The least marks of a rewriter, and a dict from its rest sets to them.

    Refuses a rewriter that is not single, or has too many rest sets.
    """
    check_single(rewriter)
    rows, steps = checked_sets(rewriter)
    pairs = reached_steps(rewriter)
    return classes_apart(rewriter, rows, steps, wild_among(pairs, lassos(rewriter, pairs)))


def classes_apart(rewriter, rows, steps, apart):
    """The fewest marks for rest sets as they are met, of which no two with one of these pairs are one.

    The second result is a dict from the rest sets to the marks. Sets of one mark also have the same texts ahead
    of them that have a result.
    """
    letters, starts = rewriter.letters, rewriter.starts
    lets = {at: any([state in starts for state in row]) for at, row in enumerate(rows)}
    domains = same_classes(lets, {at: [steps[(letter, at)] for letter in letters] for at in lets})
    found = _kept_apart(rewriter, rows, domains, apart)
    moves = {(letter, found[at]): found[after] for (letter, at), after in steps.items()}
    good = sorted({found[at] for at in lets if lets[at]})
    return Marks(letters, moves, tuple(good)), {row: found[at] for at, row in enumerate(rows)}


def _kept_apart(rewriter, rows, domains, apart):
    """The classes of the rest sets, as a list: one class for equal domains without such a pair between them."""
    beside = {state: {} for state in rewriter.states}
    for state, other in apart:
        beside[state][other] = True
    found = []
    firsts = []
    for at, row in enumerate(rows):
        barred = {other: True for state in row for other in beside[state]}
        near = [number for number, first in enumerate(firsts) if domains[first] == domains[at]
                and not any([against in barred for against in rows[first]])]
        if not near:
            near = [len(firsts)]
            firsts.append(at)
        found.append(near[0])
    return found


def _are_steps(letters, value):
    """Whether this is a dict from all pairs of these letters and of marks to marks."""
    if not isinstance(value, dict):
        return False
    if not all([is_tuple_of(pair, 2) and is_letter_of(letters, pair[0]) for pair in value]):
        return False
    many = len(value) // len(letters)
    # There are no more pairs with a mark below `many` than `many` marks and these letters make.
    marks = [pair[1] for pair in value] + list(value.values())
    return 1 <= many <= MAX_MARKS and all([is_below(mark, many) for mark in marks])


def _pairs_into(steps):
    """A dict from marks to the ascending tuples of the pairs that lead to them."""
    rows = {mark: [] for _, mark in steps}
    for pair, mark in steps.items():
        rows[mark].append(pair)
    return {mark: tuple(rows[mark]) for mark in rows}


def _order_met(letters, steps):
    """A dict from the marks to their numbers in the order in which they are met."""
    numbers = {0: 0}
    row = [0]
    at = 0
    while at < len(row):
        for letter in letters:
            after = steps[(letter, row[at])]
            if after not in numbers:
                numbers[after] = len(numbers)
                row.append(after)
        at += 1
    return numbers
