"""Patterns: [17.1], [0.22], and module fewmarks.books.patterns."""
import itertools
import random
import unittest

from fewmarks.books.patterns import begins_with, ends_with, fits, is_pattern
from fewmarks.errors import InvalidBook, InvalidText
from helpers import Refusals, all_texts, any_values, is_string_of_letters


def fits_too(items, text):
    """Whether some cut of the text into pieces gives each item its own."""
    many = len(items)
    for cuts in itertools.combinations_with_replacement(range(len(text) + 1), max(0, many - 1)):
        places = (0,) + cuts + (len(text),)
        pieces = [text[places[at]:places[at + 1]] for at in range(many)]
        if many == 0:
            return text == ""
        if all(set(piece) <= set(letters) and (kind == "any" or len(piece) == 1) for piece, (letters, kind) in zip(pieces, items)):
            return True
    return False


def begins_too(pattern, text):
    items, whole = pattern
    return fits_too(items, text) if whole else any(fits_too(items, text[:at]) for at in range(len(text) + 1))


def ends_too(pattern, text):
    items, whole = pattern
    return fits_too(items, text) if whole else any(fits_too(items, text[at:]) for at in range(len(text) + 1))


def is_pattern_too(value):
    """Whether the value is a pattern, told in another way than by the package."""
    if type(value) is not tuple or len(value) != 2 or type(value[0]) is not tuple or type(value[1]) is not bool or len(value[0]) > 3:
        return False
    for item in value[0]:
        if type(item) is not tuple or len(item) != 2 or not is_string_of_letters(item[0]) or item[0] == "":
            return False
        if any(x >= y for x, y in zip(item[0], item[0][1:])) or type(item[1]) is not str or item[1] not in ("one", "any"):
            return False
    return True


def random_pattern(chance, letters="ab", most=3):
    items = []
    for _ in range(chance.randint(0, most)):
        some = "".join(sorted(chance.sample(letters, chance.randint(1, len(letters)))))
        items.append((some, chance.choice(("one", "any"))))
    return tuple(items), chance.random() < 0.4


ITEMS = [(letters, kind) for letters in ("a", "b", "ab") for kind in ("one", "any")]


class TestPatterns(Refusals, unittest.TestCase):
    def check(self, pattern, text):
        self.assertIs(is_pattern(pattern), True)
        self.assertIs(fits(pattern, text), fits_too(pattern[0], text), (pattern, text))
        self.assertIs(begins_with(pattern, text), begins_too(pattern, text), (pattern, text))
        self.assertIs(ends_with(pattern, text), ends_too(pattern, text), (pattern, text))

    def test_all_patterns_and_short_texts(self):
        for many in range(3):
            for items in itertools.product(ITEMS, repeat=many):
                for whole in (True, False):
                    for text in all_texts("ab", 4):
                        self.check((items, whole), text)

    def test_three_items(self):
        chance = random.Random(600)
        rows = [(items, whole) for items in itertools.product(ITEMS, repeat=3) for whole in (True, False)]
        for pattern in rows:
            for text in chance.sample(all_texts("ab", 4), 9):
                self.check(pattern, text)

    def test_drawn_patterns_of_more_letters(self):
        chance = random.Random(601)
        for _ in range(120):
            pattern = random_pattern(chance, "abcd")
            for text in chance.sample(all_texts("abcd", 4), 20) + ["".join(chance.choice("abcd") for _ in range(7))]:
                self.check(pattern, text)

    def test_items_of_any_number_side_by_side(self):
        both = ((("a", "any"), ("b", "any"), ("a", "any")), True)
        self.assertEqual([begins_with(both, text) for text in ("", "a", "ab", "aba", "abba", "bab", "abab")], [True, True, True, True, True, False, False])
        self.assertEqual([ends_with(both, text) for text in ("bb", "ba", "bab")], [True, True, False])
        open_ended = (both[0], False)
        self.assertEqual([begins_with(open_ended, text) for text in ("bab", "cc", "")], [True, True, True])

    def test_whole_and_not(self):
        one_b = (("b", "one"),)
        self.assertEqual([begins_with((one_b, whole), "ba") for whole in (False, True)], [True, False])
        self.assertEqual([ends_with((one_b, whole), "ab") for whole in (False, True)], [True, False])
        # For `fits` it does not matter.
        self.assertEqual([fits((one_b, whole), text) for whole in (False, True) for text in ("b", "ab", "ba", "")], [True, False, False, False] * 2)
        self.assertEqual([begins_with(((), whole), text) for whole in (False, True) for text in ("", "a")], [True, True, True, False])
        self.assertEqual([ends_with(((), whole), text) for whole in (False, True) for text in ("", "a")], [True, True, True, False])
        self.assertEqual([fits(((), whole), text) for whole in (False, True) for text in ("", "a")], [True, False, True, False])

    def test_long_texts_and_many_letters(self):
        every = "abcdefghijklmnopqrstuvwxyz"
        pattern = (((every, "any"), ("z", "one"), (every, "any")), True)
        self.assertTrue(fits(pattern, "a" * 59 + "z"))
        self.assertTrue(fits(pattern, "z" * 60))
        self.assertFalse(begins_with(pattern, "a" * 60))
        self.assertEqual([fits(((("ab", "any"),) * 3, True), text) for text in ("ab" * 30, "ab" * 29 + "ac")], [True, False])


class TestValues(Refusals, unittest.TestCase):
    WRONG = ((), ((),), ((), 0), ((), 1), ((), None), ([], True), [(), True], ((), True, False), (((),), True), ((("a",),), True), ((("a", "one", 1),), True),
             ((("", "one"),), True), ((("ba", "one"),), True), ((("aa", "any"),), True), ((("A", "one"),), True), ((("a b", "one"),), True), ((("a", "two"),), True),
             ((("a", "One"),), True), ((("a", None),), True), ((("a", ["one"]),), True), (((["a"], "one"),), True), ((("a", "one"), ["a", "one"]), True),
             ((("a", "one"),) * 4, True), ((("a", "any"),) * 4, False), (("a", "one"), True), "a", (("a", "one"),), ((("a", "one"),), "False"), ((1, "one"), True))

    def test_values_that_are_no_patterns(self):
        for value in self.WRONG:
            self.assertIs(is_pattern(value), False, value)
            for call in (fits, begins_with, ends_with):
                self.refused(InvalidBook, call, value, "a")
                self.refused(InvalidBook, call, value, None)
        self.assertIs(is_pattern(((("a", "one"),) * 3, True)), True)
        self.assertIs(is_pattern(((), False)), True)

    def test_any_value(self):
        for value in any_values():
            for pattern in (value, (value, True), ((), value), (((value, "one"),), False), ((("a", value),), False), ((value,), True), ((("a", "one"), value), True)):
                wanted = is_pattern_too(pattern)
                self.assertIs(is_pattern(pattern), wanted, pattern)
                if not wanted:
                    self.refused(InvalidBook, ends_with, pattern, value)
            wanted = None if is_string_of_letters(value) and len(value) <= 60 else InvalidText
            for call in (fits, begins_with, ends_with):
                self.same_as_told(wanted, call, ((("a", "one"),), False), value)


if __name__ == "__main__":
    unittest.main()
