"""Words and delays: [0.8], [0.11], and module fewmarks.base.words."""
import random
import unittest

from fewmarks.base import words
from fewmarks.base.words import (ahead_by, common_beginning, delay, distance, in_order, is_delay,
                                 is_text, is_word, led_on, texts)
from fewmarks.errors import InvalidNumber, InvalidOperation, InvalidText
from helpers import Refusals, all_texts, any_values, is_string_of_letters, is_whole


def is_delay_too(value):
    if type(value) is not tuple or len(value) != 2 or not all(is_string_of_letters(word) for word in value):
        return False
    return value[0][:1] != value[1][:1] or value[0][:1] == ""


def is_letters_too(value):
    return is_string_of_letters(value) and 1 <= len(value) <= 4 and all(x < y for x, y in zip(value, value[1:]))


def delay_too(word, other):
    """The delay, by taking off one letter after the other."""
    while word and other and word[0] == other[0]:
        word, other = word[1:], other[1:]
    return word, other


class TestWords(Refusals, unittest.TestCase):
    def test_examples(self):
        self.assertEqual([delay("abba", "abc"), delay("ab", "abc"), distance("abba", "abc"), led_on(("", "c"), "cd", "a"), ahead_by(("", "c"))],
                         [('ba', 'c'), ('', 'c'), 3, ('d', 'a'), -1])
        self.assertEqual([common_beginning("abc", "ab", "abd"), list(texts("ab", 1)), in_order(("b", "aa", "", "b"))],
                         ['ab', ['', 'a', 'b'], ('', 'b', 'aa')])
        self.assertEqual(words.MAX_TEXT, 60)

    def test_kinds(self):
        for value in any_values():
            self.assertIs(is_word(value), is_string_of_letters(value))
            self.assertIs(is_text(value), is_string_of_letters(value) and len(value) <= 60)
            self.assertIs(is_delay(value), is_delay_too(value))
        for value in [(x, y) for x in any_values() for y in any_values()]:
            self.assertIs(is_delay(value), is_delay_too(value))
        self.assertFalse(is_delay(["", ""]))
        self.assertFalse(is_delay(("", "", "")))
        for sign in map(chr, range(32, 127)):
            self.assertIs(is_word("a" + sign + "a"), "a" <= sign <= "z")

    def test_delays_of_all_short_words(self):
        for word in all_texts("ab", 5):
            for other in all_texts("ab", 5):
                self.assertEqual(delay(word, other), delay_too(word, other))
                self.assertEqual(distance(word, other), sum(map(len, delay_too(word, other))))
                self.assertTrue(is_delay(delay(word, other)))
                self.assertEqual(common_beginning(word, other) + delay(word, other)[0], word)

    def test_equal_empty_and_long_words(self):
        self.assertEqual(delay("", ""), ("", ""))
        self.assertEqual(delay("abc" * 9, "abc" * 9), ("", ""))
        self.assertEqual(distance("zz", "zz"), 0)
        self.assertEqual(delay("", "q"), ("", "q"))
        self.assertEqual(delay("a" * 50000 + "b", "a" * 50000 + "c"), ("b", "c"))
        self.assertEqual(distance("a" * 5000, "b" * 5000), 10000)
        self.assertEqual(common_beginning("x" * 70, "x" * 69), "x" * 69)

    def test_common_beginning(self):
        self.assertEqual(common_beginning("abc"), "abc")
        self.assertEqual(common_beginning(""), "")
        self.assertEqual(common_beginning("abc", "abc", "abc"), "abc")
        self.assertEqual(common_beginning("abc", "abd", ""), "")
        self.assertEqual(common_beginning("abd", "ab", "abc"), "ab")
        self.assertEqual(common_beginning("ba", "ab"), "")

    def test_led_on_twice_is_led_on_by_both(self):
        chance = random.Random(1)

        def some():
            return "".join(chance.choice("ab") for _ in range(chance.randint(0, 4)))
        for _ in range(2000):
            first = delay(some(), some())
            s, t, u, v = some(), some(), some(), some()
            self.assertEqual(led_on(led_on(first, s, t), u, v), led_on(first, s + u, t + v))
            self.assertEqual(led_on(first, s, t), delay_too(first[0] + s, first[1] + t))
            self.assertEqual(ahead_by(led_on(first, s, t)), ahead_by(first) + len(s) - len(t))

    def test_led_on_stays_behind_unlike_letters(self):
        self.assertEqual(led_on(("a", "b"), "c", "c"), ("ac", "bc"))
        self.assertEqual(led_on(("", ""), "", ""), ("", ""))
        self.assertEqual(led_on(("ab", ""), "c", "abd"), ("c", "d"))
        self.assertEqual([ahead_by(("", "")), ahead_by(("abc", "")), ahead_by(("a", "bc"))], [0, 3, -1])

    def test_texts(self):
        for letters in ("a", "ab", "bz", "abc", "axyz"):
            for length in range(5):
                self.assertEqual(list(texts(letters, length)), all_texts(letters, length))
        self.assertEqual(list(texts("abcd", 0)), [""])
        self.assertEqual(len(list(texts("a", 60))), 61)

    def test_texts_come_one_by_one(self):
        rows = texts("abcd", 60)
        self.assertEqual([next(rows) for _ in range(7)], ["", "a", "b", "c", "d", "aa", "ab"])
        self.assertEqual([next(rows) for _ in range(20000)][-1], all_texts("abcd", 8)[20006])

    def test_in_order(self):
        self.assertEqual(in_order(()), ())
        self.assertEqual(in_order(("", "")), ("",))
        rows = all_texts("ab", 4)
        shuffled = rows + rows[3:9]
        random.Random(2).shuffle(shuffled)
        self.assertEqual(in_order(tuple(shuffled)), tuple(rows))
        self.assertEqual(in_order(("b" * 70, "a" * 71, "z")), ("z", "b" * 70, "a" * 71))


class TestRefusals(Refusals, unittest.TestCase):
    def test_two_words(self):
        for word in any_values():
            for other in any_values():
                right = is_string_of_letters(word) and is_string_of_letters(other)
                for call in (delay, distance, common_beginning):
                    self.same_as_told(None if right else InvalidText, call, word, other)

    def test_common_beginning_of_none_one_and_three(self):
        self.refused(InvalidOperation, common_beginning)
        for value in any_values():
            self.same_as_told(None if is_string_of_letters(value) else InvalidText, common_beginning, value)
            self.same_as_told(None if is_string_of_letters(value) else InvalidText, common_beginning, "", "b", value)

    def test_led_on(self):
        for value in any_values():
            for word in ("", "ab", None, 1, True, "A", "a\n", ("a",), ["a"]):
                for other in ("", "ab", None, 0, "a b", {}):
                    wanted = None
                    if not (is_string_of_letters(word) and is_string_of_letters(other)):
                        wanted = InvalidText
                    if not is_delay_too(value):
                        wanted = InvalidOperation
                    self.same_as_told(wanted, led_on, value, word, other)

    def test_ahead_by(self):
        for value in any_values():
            self.same_as_told(None if is_delay_too(value) else InvalidOperation, ahead_by, value)

    def test_texts(self):
        for letters in any_values():
            for length in any_values():
                wanted = None if is_whole(length) and 0 <= length <= 60 else (InvalidNumber, length)
                if not is_letters_too(letters):
                    wanted = InvalidOperation
                self.same_as_told(wanted, lambda one, two: next(texts(one, two)), letters, length)

    def test_texts_raises_when_the_first_one_is_asked_for(self):
        rows = texts(None, None)
        self.refused(InvalidOperation, next, rows)

    def test_in_order(self):
        for value in any_values():
            right = type(value) is tuple and all(is_string_of_letters(text) for text in value)
            self.same_as_told(None if right else InvalidOperation, in_order, value)
        for value in any_values():
            right = is_string_of_letters(value)
            self.same_as_told(None if right else InvalidOperation, in_order, ("a", value, ""))
        self.refused(InvalidOperation, in_order, ["a"])
        self.refused(InvalidOperation, in_order, {"a": 1})


if __name__ == "__main__":
    unittest.main()
