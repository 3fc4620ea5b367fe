"""Machines that go over a text from the right: each letter ahead leads from place to place.

Places are rest sets of a rewriter, or marks. A place is good if whole texts that lead
to it are let.
"""
from fewmarks.core.graphs import way_to
from fewmarks.core.kinds import is_below, is_row_of, is_tuple_of
from fewmarks.core.runs import edges_by_end, sources_of


class SetPlaces:
    """The rest sets of a rewriter, and whatever other sets of its states."""

    def __init__(self, rewriter):
        self._known = {}
        self._back = edges_by_end(rewriter)
        self._all = rewriter.states
        self._begins = rewriter.starts

    def is_place(self, value):
        """Whether this is an ascending tuple of states."""
        return is_row_of(self._all, value)

    def lets(self, place):
        """Whether one of the states is a start."""
        return any([state in self._begins for state in place])

    def ahead(self, letter, place):
        """The states from which the letter leads to some of these."""
        if (letter, place) not in self._known:
            self._known[(letter, place)] = sources_of(self._back, place, letter)
        return self._known[(letter, place)]


class MarkPlaces:
    """The marks of a marks machine."""

    def __init__(self, marks):
        self._many = len(marks)
        self._known = marks.steps
        self._let = marks.good

    def is_place(self, value):
        """Whether this is a mark."""
        return is_below(value, self._many)

    def lets(self, place):
        """Whether the mark is good."""
        return place in self._let

    def ahead(self, letter, place):
        """The mark of the letter with a rest of this mark behind it."""
        return self._known[(letter, place)]


def pairs_or_text(letters, one, other, begin):
    """What is known of all pairs of places to which letters ahead lead from a pair.

    This is ("same", the ascending tuple of these pairs) if in each of them both are good
    or neither, otherwise ("text", letters by which a pair is met where this is not so).
    """
    found = {begin: None}
    row = [begin]
    at = 0
    while at < len(row):
        place, beside = row[at]
        if one.lets(place) != other.lets(beside):
            _, labels = way_to(found, row[at])
            return "text", "".join(labels[::-1])
        for letter in letters:
            after = (one.ahead(letter, place), other.ahead(letter, beside))
            if after not in found:
                found[after] = (row[at], letter)
                row.append(after)
        at += 1
    return "same", tuple(sorted(row))


def are_pairs(letters, one, other, begin, value):
    """Whether this is an ascending tuple of pairs of places, this one among them, that is closed.

    Closed: letters ahead lead to such pairs again, and in each both are good or neither.
    """
    if not isinstance(value, tuple) or not all([_is_pair(one, other, pair) for pair in value]):
        return False
    given = {pair: True for pair in value}
    if list(value) != sorted(list(given)) or begin not in given:
        return False
    for place, beside in value:
        if one.lets(place) != other.lets(beside):
            return False
        if not all([(one.ahead(letter, place), other.ahead(letter, beside)) in given for letter in letters]):
            return False
    return True


def first_texts(steps):
    """A dict from all places to the first texts, in order, that lead to them.

    `steps` is a dict from pairs (letter, place) to places; the text "" leads to the place 0.
    A first text goes on, behind its first letter, as a first text that is shorter by one.
    """
    found = {0: ""}
    last = [0]
    while last:
        met = {}
        for (letter, place), after in steps.items():
            if place in last and after not in found:
                text = letter + found[place]
                met[after] = min(text, met.get(after, text))
        for after in met:
            found[after] = met[after]
        last = list(met)
    return found


def _is_pair(one, other, value):
    return is_tuple_of(value, 2) and one.is_place(value[0]) and other.is_place(value[1])
