"""Operations: [16.1], [0.22], [0.23], and module fewmarks.change.operations."""
import itertools
import random
import unittest

from fewmarks.base.rewriters import Rewriter
from fewmarks.change.operations import behind, chosen, relettered, restricted, turned
from fewmarks.errors import InvalidMachine, InvalidOperation, InvalidRewriter, NotSingle, TooMany
from fewmarks.machines.equal import have_equal_results
from fewmarks.machines.marks import Marks, least_marks
from fewmarks.pairs.single import is_single, is_single_paper
from helpers import (ADD, CHOICE, DROP, EMPTY, KNOWN, LAST, SWAP, TWICE, Refusals, all_results, all_texts, any_values, is_string_of_letters,
                     random_marks, random_rewriters, random_singles, raw_of)
from test_marks import counter, mark_too
from test_operators import behind_too, chosen_too, limit_of, reach

PLAIN = Rewriter.copying("ab")


def restricted_too(rewriter, marks):
    """The number of states, starts, edges and ends of what is asked for."""
    starts = {((p, mark), word) for p, word in rewriter.starts.items() for mark in marks.good}
    edges = {((p, marks.steps[(letter, mark)]), letter, word, (q, mark)) for p, letter, word, q in rewriter.edges for mark in marks}
    ends = {((p, 0), word) for p, word in rewriter.ends.items()}
    live = reach({p for p, _ in starts}, edges) & reach({p for p, _ in ends}, {(e[3], 0, 0, e[0]) for e in edges})
    names = {state: at for at, state in enumerate(sorted(live))}
    return (len(live), {names[p]: w for p, w in starts if p in live},
            tuple(sorted((names[p], a, w, names[q]) for p, a, w, q in edges if p in live and q in live)), {names[p]: w for p, w in ends if p in live})


def single_rewriters(seed):
    drawn = [rewriter for rewriter in random_rewriters(seed, 600, letters="ab", states=3, edges=6) if len(rewriter) > 2 and is_single(rewriter)]
    return drawn[:14] + random_singles(seed + 1, 8, states=4, gaps=0.1, most=1) + random_singles(seed + 2, 8, states=5, most=4) + [LAST, ADD, SWAP, PLAIN, EMPTY]


class TestExamples(Refusals, unittest.TestCase):
    def test_examples(self):
        least = least_marks(ADD)
        self.assertEqual([(ADD >> ADD)("aab"), (ADD >> ADD).states, (~DROP)("aaa"), (PLAIN | LAST)("b"), relettered(ADD, {"a": "x", "b": "b"})("bx")],
                         [('abb',), (0, 1, 2, 3), ('aa',), ('b', 'bb'), ('bb',)])
        self.assertEqual([len(least_marks(~LAST)), have_equal_results(DROP, ~DROP), restricted(ADD, Marks("ab", least.steps, (0,)))("ab"), len(least_marks(DROP >> DROP))],
                         [1, True, (), 1])


class TestBesideOperators(Refusals, unittest.TestCase):
    def test_turned(self):
        for rewriter in random_rewriters(500, 80) + list(KNOWN):
            other = turned(rewriter)
            self.assertEqual(other, ~rewriter)
            self.assertEqual((turned(other), other.states), (rewriter, rewriter.states))
            for text in all_texts(rewriter.letters, 3):
                self.assertEqual(set(other(text[::-1])), {word[::-1] for word in all_results(raw_of(rewriter), text)})

    def test_chosen(self):
        some = random_rewriters(501, 14, letters="ab")
        for one, other in itertools.product(some, repeat=2):
            both = chosen(one, other)
            self.assertEqual(both, one | other)
            names, (starts, edges, ends) = chosen_too(one, other)
            self.assertEqual((both.starts, both.edges, both.ends), (starts, tuple(sorted(edges)), ends))
            self.assertEqual(both.states, tuple(range(len(names))))
            for text in all_texts("ab", 2):
                self.assertEqual(set(both(text)), set(all_results(raw_of(one), text)) | set(all_results(raw_of(other), text)))

    def test_behind(self):
        counts = {}
        for one, other in itertools.product(single_rewriters(502), repeat=2):
            many, starts, edges, ends = behind_too(one, other)
            limit = limit_of(many, edges, list(starts.values()) + [edge[2] for edge in edges] + list(ends.values()))
            counts[limit] = counts.get(limit, 0) + 1
            if limit is not None:
                self.assertEqual(self.refused(TooMany, behind, one, other).limit, limit)
                continue
            both = behind(one, other)
            self.assertEqual(both, one >> other)
            self.assertEqual((both.states, both.starts, both.edges, both.ends), (tuple(range(many)), starts, edges, ends))
            for text in all_texts("ab", 3):
                self.assertEqual(set(both(text)), {result for word in all_results(raw_of(one), text) for result in all_results(raw_of(other), word)})
        self.assertGreater(counts[None], 200)
        self.assertGreater(counts[12] + counts[8], 5)

    def test_ways_that_write_the_same_are_one_edge(self):
        two = Rewriter("ab", {0: ""}, ((0, "a", "x", 1), (0, "a", "", 2), (1, "b", "", 3), (2, "b", "x", 3), (3, "a", "", 0)), {3: ""})
        self.assertTrue(is_single(two))
        one = Rewriter("a", {0: ""}, ((0, "a", "ab", 1),), {1: ""})
        self.assertEqual(behind(one, two).edges, ((0, "a", "x", 1),))
        self.assertEqual(behind(one, two)("a"), ("x",))

    def test_letters_that_the_second_one_does_not_read(self):
        up = Rewriter("ab", {0: ""}, ((0, "a", "x", 0), (0, "b", "y", 0)), {0: ""})
        down = Rewriter("xz", {0: "q"}, ((0, "x", "a", 0), (0, "z", "b", 0)), {0: ""})
        both = behind(up, down)
        self.assertEqual([both.letters, both("aa"), both("ab"), len(both)], ["ab", ("qaa",), (), 1])
        self.assertEqual([behind(PLAIN, down)(text) for text in ("", "a", "ba")], [("q",), (), ()])
        self.assertFalse(behind(Rewriter("a", {0: "y"}, (), {0: ""}), down))


class TestRestricted(Refusals, unittest.TestCase):
    def test_parts_and_results(self):
        counts = {}
        for letters in ("a", "ab"):
            for rewriter in random_rewriters(510, 14, letters=letters) + random_singles(511, 6, letters=letters, states=4) + [Rewriter(letters, {0: ""}, (), {1: ""})]:
                for marks in random_marks(512, 10, most=5, letters=letters) + [counter(1, letters), counter(3, letters, (1, 2)), counter(2, letters, ())]:
                    many, starts, edges, ends = restricted_too(rewriter, marks)
                    limit = limit_of(many, edges, [])
                    counts[limit] = counts.get(limit, 0) + 1
                    if limit is not None:
                        self.assertEqual(self.refused(TooMany, restricted, rewriter, marks).limit, limit)
                        continue
                    part = restricted(rewriter, marks)
                    self.assertEqual((part.letters, part.states, part.starts, part.edges, part.ends), (letters, tuple(range(many)), starts, edges, ends))
                    for text in all_texts(letters, 3):
                        wanted = all_results(raw_of(rewriter), text) if mark_too(marks, text) in marks.good else ()
                        self.assertEqual(part(text), wanted)
        self.assertGreater(counts[None], 200)
        self.assertGreater(counts[12], 5)

    def test_limits(self):
        plain = Rewriter.copying("a")
        self.assertEqual(restricted(plain, counter(12)).states, tuple(range(12)))
        self.assertEqual(self.refused(TooMany, restricted, plain, counter(13)).limit, 12)
        # Each of the edges becomes one for each mark.
        edges = tuple((p, letter, word, q) for p, q in ((0, 1), (1, 0)) for letter in "ab" for word in ("", "a", "b", "aa", "ab", "ba", "bb", "aaa"))
        many = Rewriter("ab", {0: ""}, edges, {0: "", 1: ""})
        part = restricted(many, counter(2, "ab", (0, 1)))
        self.assertEqual((len(many), len(part), len(part.states)), (32, 64, 4))
        self.assertEqual(self.refused(TooMany, restricted, many.with_edge((0, "a", "zzz", 1)), counter(2, "ab", (0, 1))).limit, 64)
        self.assertEqual(self.refused(TooMany, restricted, many, counter(3, "ab", (0, 1, 2))).limit, 64)
        self.assertEqual(self.refused(TooMany, restricted, many, counter(7, "ab", (0,))).limit, 12)
        # Words stay as they are.
        wide = Rewriter("a", {0: "x" * 8}, ((0, "a", "y" * 8, 0),), {0: "z" * 8})
        self.assertEqual(restricted(wide, counter(2))("aa"), ("x" * 8 + "y" * 16 + "z" * 8,))

    def test_refusals(self):
        for value in any_values():
            if not isinstance(value, Rewriter):
                self.refused(InvalidRewriter, restricted, value, None)
                self.refused(InvalidRewriter, restricted, value, counter(1))
            if not isinstance(value, Marks):
                self.refused(InvalidMachine, restricted, LAST, value)
        self.refused(InvalidOperation, restricted, LAST, counter(1))
        self.refused(InvalidOperation, restricted, DROP, counter(13, "ab"))
        self.assertEqual(restricted(TWICE, counter(1, "ab"))("b"), TWICE("b"))


class TestRelettered(Refusals, unittest.TestCase):
    def test_results(self):
        chance = random.Random(520)
        for rewriter in random_rewriters(521, 80) + list(KNOWN):
            images = chance.sample("abcxyz", len(rewriter.letters))
            letters = dict(zip(rewriter.letters, images))
            rows = list(letters.items())
            chance.shuffle(rows)
            other = relettered(rewriter, dict(rows))
            self.assertEqual((other.letters, other.states, other.starts, other.ends), ("".join(sorted(images)), rewriter.states, rewriter.starts, rewriter.ends))
            self.assertEqual(set(other.edges), {(p, letters[letter], word, q) for p, letter, word, q in rewriter.edges})
            for text in all_texts(rewriter.letters, 2):
                self.assertEqual(other("".join(letters[letter] for letter in text)), all_results(raw_of(rewriter), text))
            back = {image: letter for letter, image in letters.items()}
            self.assertEqual(relettered(other, back), rewriter)
        self.assertEqual(relettered(ADD, {"a": "b", "b": "a"})("bba"), ("aba",))

    def test_values_that_are_no_such_dict(self):
        right = {"b": "y", "a": "x"}
        self.assertEqual(relettered(LAST, right).letters, "xy")
        for wrong in (None, "xy", ("x", "y"), ["x", "y"], {}, {"a": "x"}, {"a": "x", "b": "y", "c": "z"}, {"a": "x", "c": "y"}, {"a": "x", "b": "x"},
                      {"a": "x", "b": ""}, {"a": "x", "b": "yz"}, {"a": "x", "b": "Y"}, {"a": "x", "b": " "}, {"a": "x", "b": 1}, {"a": "x", "b": None}, {"a": "x", "b": ["y"]},
                      {"a": "x", 1: "y"}, {"a": "x", None: "y"}, {"ab": "x"}, {"a": "x", "b": "y", True: "z"}, list(right.items()), {"a": "x", ("b",): "y"}, {"a": "x", "b": ("y",)},
                      {"a": "x", "": "y"}, {"a": "x", "b": "\n"}, {"a": "x", "b": "0"}):
            self.refused(InvalidOperation, relettered, LAST, wrong)
        for value in any_values():
            self.refused(InvalidOperation, relettered, LAST, value)
            self.refused(InvalidOperation, relettered, LAST, {"a": "x", "b": value} if not is_string_of_letters(value) or len(value) != 1 else {"a": value, "b": value})
            if not isinstance(value, Rewriter):
                self.refused(InvalidRewriter, relettered, value, None)
        before = dict(right)
        relettered(LAST, right)
        self.assertEqual(right, before)


class TestRefusals(Refusals, unittest.TestCase):
    def test_turned_chosen_behind(self):
        for value in any_values():
            if not isinstance(value, Rewriter):
                self.refused(InvalidRewriter, turned, value)
                for call in (chosen, behind):
                    self.refused(InvalidRewriter, call, value, LAST)
                    self.refused(InvalidRewriter, call, value, None)
                    self.refused(InvalidRewriter, call, LAST, value)
                    self.refused(InvalidRewriter, call, CHOICE, value)
        self.refused(InvalidOperation, chosen, LAST, DROP)
        self.refused(InvalidOperation, chosen, Rewriter("a", {0: ""}, tuple((p, "a", "", p + 1) for p in range(11)), {11: ""}), LAST)
        for one, other, wrong in ((TWICE, LAST, TWICE), (LAST, TWICE, TWICE), (CHOICE, TWICE, CHOICE), (TWICE, CHOICE, TWICE)):
            paper = self.refused(NotSingle, behind, one, other).paper
            self.assertEqual(paper[0], "two")
            self.assertIs(is_single_paper(wrong, paper), True)

    def test_limits_that_are_just_reached(self):
        four, three, five = [Rewriter("a", {0: ""}, tuple((p, "a", "a", (p + 1) % many) for p in range(many)), {0: ""}) for many in (4, 3, 5)]
        self.assertEqual(behind(four, three).states, tuple(range(12)))
        self.assertEqual(self.refused(TooMany, behind, five, three).limit, 12)
        seven = Rewriter("a", {0: ""}, tuple((p, "a", "", p + 1) for p in range(6)), {6: ""})
        self.assertEqual(chosen(seven, five).states, tuple(range(12)))
        self.assertEqual(self.refused(TooMany, chosen, seven, seven).limit, 12)
        eight = Rewriter("a", {0: ""}, ((0, "a", "b" * 8, 0),), {0: ""})
        self.assertEqual(behind(Rewriter("a", {0: "a"}, (), {0: ""}), eight)(""), ("b" * 8,))
        self.assertEqual(self.refused(TooMany, behind, Rewriter("a", {0: "aa"}, (), {0: ""}), eight).limit, 8)

    def test_nothing_changes(self):
        before = [raw_of(rewriter) for rewriter in KNOWN]
        for one, other in itertools.product((LAST, ADD, SWAP, PLAIN), repeat=2):
            for call in (chosen, behind):
                try:
                    self.assertEqual(call(one, other), call(one, other))
                except TooMany:
                    self.refused(TooMany, call, one, other)
        self.assertEqual([raw_of(rewriter) for rewriter in KNOWN], before)


if __name__ == "__main__":
    unittest.main()
