"""Marks: [0.15], [0.19], [0.22], [0.23], and module fewmarks.machines.marks."""
import itertools
import random
import unittest

from fewmarks.base.rewriters import Rewriter
from fewmarks.errors import InvalidMachine, InvalidNumber, InvalidOperation, InvalidRewriter, InvalidText, NotSingle, TooMany
from fewmarks.machines.marks import MAX_MARKS, Marks, class_of, least_marks, map_of
from fewmarks.pairs.single import is_single, is_single_paper
from fewmarks.rests.papers import are_alike
from fewmarks.rests.rests import left, rest_sets
from helpers import (ADD, CHOICE, DROP, EMPTY, KNOWN, LAST, SWAP, TURNS, TWICE, Refusals, all_texts, any_values, is_whole, many_sets,
                     random_marks, random_singles)
from second_ways import are_alike_too, left_by_runs, rest_sets_too, results_too, wild_too
from test_papers import some_singles

PARITY = Marks("ab", {("a", 0): 1, ("a", 1): 0, ("b", 0): 1, ("b", 1): 0}, (0, 1))


def mark_too(marks, rest):
    """The mark of a rest, from its last letter to its first."""
    mark = 0
    for letter in reversed(rest):
        mark = marks.steps[(letter, mark)]
    return mark


def are_marks(letters, steps, good):
    """Whether there are such marks, told in another way than by the package."""
    if type(letters) is not str or not 1 <= len(letters) <= 4 or any(not "a" <= sign <= "z" for sign in letters):
        return False
    if type(steps) is not dict or any(x >= y for x, y in zip(letters, letters[1:])):
        return False
    for key, after in steps.items():
        if type(key) is not tuple or len(key) != 2 or type(key[0]) is not str or not is_whole(key[1]) or not is_whole(after):
            return False
    many = 1 + max([0] + [key[1] for key in steps])
    if many > 256 or set(steps) != {(letter, mark) for letter in letters for mark in range(many)}:
        return False
    if not all(0 <= after < many for after in steps.values()):
        return False
    met = [0]
    for mark in met:
        met += [after for after in sorted({steps[(letter, mark)] for letter in letters}) if after not in met]
    if len(met) != many or type(good) is not tuple or not all(is_whole(mark) and 0 <= mark < many for mark in good):
        return False
    return list(good) == sorted(set(good))


def counter(many, letters="a", good=(0,)):
    """Marks that count letters round and round."""
    return Marks(letters, {(letter, mark): (mark + 1) % many for letter in letters for mark in range(many)}, good)


class TestMarks(Refusals, unittest.TestCase):
    def test_examples(self):
        least = least_marks(ADD)
        self.assertEqual([least.steps, least.good, least.row("ab"), least.first_rest(1), str(least_marks(LAST)),
                          len(least_marks(SWAP)), class_of(LAST, "ab")],
                         [{('a', 0): 1, ('a', 1): 1, ('b', 0): 0, ('b', 1): 1}, (0, 1), (1, 0, 0), 'a', '3 marks, 3 good', 1, 2])
        self.assertEqual([PARITY("aba"), map_of(PARITY, least_marks(SWAP)), map_of(least_marks(SWAP), PARITY), PARITY[0]],
                         [1, {0: 0, 1: 0}, None, (('a', 1), ('b', 1))])

    def test_everything_against_steps_one_by_one(self):
        chance = random.Random(110)
        for marks in random_marks(111, 60) + [PARITY, counter(7), counter(5, "abc", ()), least_marks(LAST)]:
            steps, letters = marks.steps, marks.letters
            many = len({mark for _, mark in steps})
            self.assertEqual(len(marks), many)
            self.assertEqual(list(marks), list(range(many)))
            self.assertEqual(list(steps), sorted(steps))
            self.assertEqual(str(marks), f"{many} marks, {len(marks.good)} good")
            for rest in all_texts(letters, 3) + ["".join(chance.choice(letters) for _ in range(60))]:
                self.assertEqual(marks(rest), mark_too(marks, rest))
                self.assertEqual(marks.row(rest), tuple(mark_too(marks, rest[at:]) for at in range(len(rest) + 1)))
            for mark in marks:
                self.assertEqual(marks[mark], tuple(sorted(pair for pair in steps if steps[pair] == mark)))
            # Steps may stand in any order.
            rows = list(steps.items())
            chance.shuffle(rows)
            same = Marks(letters, dict(rows), marks.good)
            self.assertTrue(same == marks and not same != marks)
            self.assertEqual(list(same.steps), sorted(steps))
            self.assertEqual(same[0], marks[0])

    def test_first_rests(self):
        for marks in random_marks(112, 60) + [PARITY, counter(6, "xyz")]:
            firsts = {}
            for rest in all_texts(marks.letters, 6):
                firsts.setdefault(mark_too(marks, rest), rest)
            for mark in marks:
                if mark in firsts:
                    self.assertEqual(marks.first_rest(mark), firsts[mark])
                else:
                    self.assertGreater(len(marks.first_rest(mark)), 6)
                self.assertEqual(mark_too(marks, marks.first_rest(mark)), mark)
        self.assertEqual([counter(200, "bc").first_rest(mark) for mark in (0, 1, 199)], ["", "b", "b" * 199])

    def test_met(self):
        moved = 0
        for marks in random_marks(113, 80) + [PARITY]:
            numbers, row = {0: 0}, [0]
            for mark in row:
                for letter in marks.letters:
                    after = marks.steps[(letter, mark)]
                    if after not in numbers:
                        numbers[after] = len(row)
                        row.append(after)
            met = marks.met()
            self.assertIs(type(met), Marks)
            self.assertEqual(met.steps, {(letter, numbers[mark]): numbers[after] for (letter, mark), after in marks.steps.items()})
            self.assertEqual(met.good, tuple(sorted(numbers[mark] for mark in marks.good)))
            self.assertEqual(met.met(), met)
            self.assertEqual(map_of(marks, met), numbers)
            moved += met != marks
        self.assertGreater(moved, 20)

    def test_equality(self):
        steps = PARITY.steps
        for other in (Marks("ab", steps, (0,)), Marks("ac", {(letter.replace("b", "c"), mark): after for (letter, mark), after in steps.items()}, (0, 1)),
                      counter(2), Marks("ab", {**steps, ("a", 1): 1}, (0, 1))):
            self.assertTrue(PARITY != other and not PARITY == other)
        self.assertTrue(PARITY == Marks("ab", dict(reversed(steps.items())), (0, 1)))
        for value in any_values():
            self.assertIs(PARITY == value, False)
            self.assertIs(PARITY != value, True)

    def test_nothing_gives_access(self):
        steps = PARITY.steps
        marks = Marks("ab", steps, (0, 1))
        steps[("a", 0)] = 0
        steps[("c", 0)] = 5
        marks.steps[("a", 0)] = 7
        marks.steps.clear()
        self.assertEqual(marks, PARITY)
        self.assertEqual([marks("a"), marks[1], marks.steps], [1, (("a", 0), ("b", 0)), PARITY.steps])
        self.assertIs(type(marks.good), tuple)
        self.assertEqual([(marks.letters, marks.good), MAX_MARKS], [("ab", (0, 1)), 256])

    def test_256_marks_exactly(self):
        marks = counter(256, "ab", (0, 255))
        self.assertEqual([len(marks), str(marks), marks.first_rest(255), marks("b" * 60), marks[0]],
                         [256, "256 marks, 2 good", "a" * 255, 60, (("a", 255), ("b", 255))])
        self.assertEqual(marks.met(), marks)
        self.refused(InvalidMachine, counter, 257)
        self.refused(InvalidMachine, Marks, "a", {("a", mark): min(mark + 1, 300) for mark in range(301)}, ())
        wide = Marks("abcd", {(letter, mark): (4 * mark + at) % 256 for mark in range(256) for at, letter in enumerate("abcd")}, (7,))
        self.assertEqual([len(wide), wide("abcd"), len(wide[0])], [256, mark_too(wide, "abcd"), 4])


class TestNoMarks(Refusals, unittest.TestCase):
    def test_letters_steps_and_good(self):
        steps = PARITY.steps
        for value in any_values():
            if value != "ab":
                self.refused(InvalidMachine, Marks, value, steps, (0, 1))
            self.refused(InvalidMachine, Marks, "ab", value, (0, 1))
            self.same_as_told(None if are_marks("ab", steps, value) else InvalidMachine, Marks, "ab", steps, value)
        for good in ((0, 1), (0,), (1,), ()):
            self.assertEqual(Marks("ab", steps, good).good, good)
        for good in ((1, 0), (0, 0), (0, 2), (2,), (-1,), (True,), (0, True), (False,), [0], [0, 1], {0: 1}, "0", None, (0, "1"), 0):
            self.refused(InvalidMachine, Marks, "ab", steps, good)

    def test_a_pair_less_or_more_or_another(self):
        for marks in random_marks(114, 30, most=4) + [PARITY, counter(1), counter(3, "ab")]:
            steps, letters = marks.steps, marks.letters
            rows = [{key: steps[key] for key in steps if key != left_out} for left_out in steps]
            rows += [{**steps, key: after} for key in list(steps) + [("a", len(marks)), ("z", 0), ("", 0), (letters[0], -1), (letters, 0), (0, letters[0]),
                                                                     letters[0], (letters[0], 0, 0), (letters[0], None), None]
                     for after in (0, 1, len(marks), len(marks) - 1, -1, None, "0", 10 ** 30)]
            rows += [{(key[0], True if key[1] == 1 else key[1]): after for key, after in steps.items()},
                     {key: True if after == 1 else after for key, after in steps.items()},
                     {(key[0], False if key[1] == 0 else key[1]): after for key, after in steps.items()},
                     {key: False if after == 0 else after for key, after in steps.items()},
                     list(steps.items()), tuple(steps), {}, None, {key: [after] for key, after in steps.items()}]
            right = 0
            for wrong in rows:
                wanted = are_marks(letters, wrong, ())
                right += wanted
                self.same_as_told(None if wanted else InvalidMachine, Marks, letters, wrong, ())
            self.assertGreater(right, 0)

    def test_marks_that_no_rest_has(self):
        self.refused(InvalidMachine, Marks, "a", {("a", 0): 0, ("a", 1): 0}, ())
        self.refused(InvalidMachine, Marks, "a", {("a", 0): 0, ("a", 1): 1}, ())
        self.refused(InvalidMachine, Marks, "ab", {("a", 0): 0, ("a", 1): 2, ("a", 2): 1, ("b", 0): 0, ("b", 1): 2, ("b", 2): 2}, (0,))
        self.assertEqual(len(Marks("a", {("a", 0): 1, ("a", 1): 1}, ())), 2)

    def test_rests_and_numbers(self):
        for value in any_values():
            wanted = None
            if not isinstance(value, str) or value.strip("abcdefghijklmnopqrstuvwxyz") or len(value) > 60:
                wanted = InvalidText
            elif value.strip("ab"):
                wanted = InvalidOperation
            self.same_as_told(wanted, PARITY, value)
            self.same_as_told(wanted, PARITY.row, value)
            right = is_whole(value) and 0 <= value < 2
            self.same_as_told(None if right else (InvalidNumber, value), PARITY.first_rest, value)
            self.same_as_told(None if right else (InvalidNumber, value), PARITY.__getitem__, value)


class TestLeast(Refusals, unittest.TestCase):
    def check(self, rewriter):
        marks = least_marks(rewriter)
        rests = all_texts(rewriter.letters, 3)[:12]
        self.assertEqual(marks.letters, rewriter.letters)
        self.assertEqual(marks.met(), marks)
        wild = wild_too(rewriter)
        classes = {}
        for rest in rests:
            self.assertEqual(class_of(rewriter, rest), marks(rest))
            self.assertEqual(bool(results_too(rewriter, rest)), marks(rest) in marks.good)
            for other in rests:
                self.assertEqual(marks(rest) == marks(other),
                                 are_alike_too(rewriter, wild, left_by_runs(rewriter, rest), left_by_runs(rewriter, other)))
        for mark in marks:
            classes[mark] = left_by_runs(rewriter, marks.first_rest(mark))
            self.assertEqual(bool(set(classes[mark]) & set(rewriter.starts)), mark in marks.good)
        for one, two in itertools.combinations(classes.values(), 2):
            self.assertFalse(are_alike_too(rewriter, wild, one, two))
        for row in rest_sets_too(rewriter):
            self.assertEqual(sum(are_alike_too(rewriter, wild, row, first) for first in classes.values()), 1)
        # Rests ahead of which no text has a result are one class.
        self.assertLessEqual(sum(not states for states in classes.values()), 1)
        return len(marks)

    def test_against_all_rests(self):
        many = [self.check(rewriter) for rewriter in some_singles(120) + random_singles(125, 20, states=5) + [LAST, ADD, SWAP, DROP, TURNS, EMPTY]]
        self.assertGreater(len(set(many)), 4)

    def test_as_the_papers_say(self):
        for rewriter in some_singles(130)[:40] + [LAST, ADD, SWAP, DROP, TURNS]:
            marks = least_marks(rewriter)
            rests = all_texts(rewriter.letters, 3)[:8]
            for rest in rests:
                for other in rests:
                    self.assertEqual(are_alike(rewriter, rest, other), marks(rest) == marks(other))

    def test_without_states_and_with_letters_that_no_edge_reads(self):
        self.assertEqual(least_marks(EMPTY), Marks("ab", {("a", 0): 0, ("b", 0): 0}, ()))
        self.assertEqual(str(least_marks(EMPTY)), "1 marks, 0 good")
        self.assertEqual(class_of(EMPTY, "ab"), 0)
        gaps = Rewriter("abc", {0: ""}, ((0, "a", "a", 0),), {0: ""})
        self.assertEqual(least_marks(gaps), Marks("abc", {("a", 0): 0, ("b", 0): 1, ("c", 0): 1, ("a", 1): 1, ("b", 1): 1, ("c", 1): 1}, (0,)))
        self.assertEqual([class_of(gaps, rest) for rest in ("", "aa", "ab", "ba", "c")], [0, 0, 1, 1, 1])

    def test_more_marks_than_states_and_fewer(self):
        # One mark for unlike rest sets: what is written keeps near.
        self.assertEqual((len(least_marks(TURNS)), len(rest_sets(TURNS))), (4, 5))
        self.assertEqual(class_of(TURNS, "a"), class_of(TURNS, "b"))
        self.assertNotEqual(left(TURNS, "a"), left(TURNS, "b"))
        self.assertEqual(len(least_marks(many_sets())), 256)

    def test_map_of(self):
        for marks in random_marks(131, 40, letters="ab"):
            for other in random_marks(132, 12, letters="ab", most=3) + [marks, marks.met(), PARITY, counter(1, "ab", ()), counter(3, "ab", (1,))]:
                pairs = [(0, 0)]
                for mark, image in pairs:
                    pairs += sorted({(marks.steps[(letter, mark)], other.steps[(letter, image)]) for letter in "ab"} - set(pairs))
                wanted = dict(sorted(pairs)) if len(pairs) == len(marks) else None
                found = map_of(marks, other)
                self.assertEqual(found, wanted)
                if found is not None:
                    self.assertEqual(list(found), list(marks))
        two = counter(2, "ab", ())
        self.assertEqual(map_of(counter(4, "ab", (0, 1)), two), {0: 0, 1: 1, 2: 0, 3: 1})
        self.assertEqual(map_of(two, PARITY), {0: 0, 1: 1})
        self.assertIs(map_of(two, counter(4, "ab")), None)

    def test_finer_marks_are_mapped_in_one_way(self):
        for rewriter in [rewriter for rewriter in KNOWN if is_single(rewriter)]:
            rows = list(rest_sets(rewriter))
            fine = Marks(rewriter.letters, {(letter, at): rows.index(rewriter.sources(row, letter)) for at, row in enumerate(rows)
                                            for letter in rewriter.letters}, ())
            self.assertEqual(map_of(fine, least_marks(rewriter)), {at: class_of(rewriter, fine.first_rest(at)) for at in fine})


class TestRefusals(Refusals, unittest.TestCase):
    def test_arguments_in_their_order(self):
        for value in any_values():
            if not isinstance(value, Rewriter):
                self.refused(InvalidRewriter, least_marks, value)
                self.refused(InvalidRewriter, class_of, value, None)
            if not isinstance(value, Marks):
                self.refused(InvalidMachine, map_of, value, None)
                self.refused(InvalidMachine, map_of, value, counter(2))
                self.refused(InvalidMachine, map_of, counter(2), value)
            wanted = None
            if not isinstance(value, str) or value.strip("abcdefghijklmnopqrstuvwxyz") or len(value) > 60:
                wanted = InvalidText
            elif value.strip("ab"):
                wanted = InvalidOperation
            self.same_as_told(wanted, class_of, LAST, value)
            self.same_as_told(wanted or NotSingle, class_of, TWICE, value)
        self.refused(InvalidOperation, map_of, counter(2), PARITY)
        self.refused(InvalidOperation, map_of, counter(2, "ab"), counter(2, "abc"))

    def test_two_results_and_many_rest_sets(self):
        more = many_sets(more=True)
        both = Rewriter("abcd", more.starts, more.edges + ((0, "d", "a", 0),), more.ends)
        for call, last in ((least_marks, ()), (class_of, ("a",))):
            for rewriter in (CHOICE, TWICE, both):
                paper = self.refused(NotSingle, call, rewriter, *last).paper
                self.assertEqual(paper[0], "two")
                self.assertTrue(is_single_paper(rewriter, paper))
            self.assertEqual(self.refused(TooMany, call, more, *last).limit, 256)
            call(many_sets(), *last)
        self.refused(InvalidText, class_of, both, "A")
        self.refused(InvalidOperation, class_of, both, "z")


if __name__ == "__main__":
    unittest.main()
