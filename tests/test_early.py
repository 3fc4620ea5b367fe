"""Early machines: [0.17], [12.1], [12.2], [12.3], [0.22], [0.23], and module fewmarks.machines.early."""
import random
import unittest

from fewmarks.base.rewriters import Rewriter
from fewmarks.errors import InvalidMachine, InvalidOperation, InvalidRewriter, InvalidText, NotSingle, TooMany
from fewmarks.machines.early import early, is_early, serve, spread, written
from fewmarks.machines.machines import TwoPass, does, refined
from fewmarks.machines.marks import Marks, least_marks, map_of
from fewmarks.pairs.single import is_single_paper
from fewmarks.rests.rests import rest_sets
from helpers import (ADD, CHOICE, DROP, EMPTY, LAST, SWAP, TURNS, TWICE, Refusals, all_texts, any_values, many_sets, random_marks,
                     random_singles)
from second_ways import are_alike_too, has_result_too, left_by_runs, result_too, runs_from, sources_too, wild_too
from test_machines import ADDER, random_machine
from test_marks import counter, mark_too
from test_papers import some_singles

ENDS = Marks("a", {("a", 0): 1, ("a", 1): 1}, (0, 1))
# Each result begins with an x, but the paths from the state 0 write it late.
LATE = Rewriter("ab", {0: "", 1: ""}, ((0, "a", "", 2), (2, "a", "xy", 0), (1, "a", "x", 3), (3, "b", "yx", 1)), {0: "xa", 3: "a"})


def dropping(many, letters="ab", read="ab"):
    """Leaves out the last letters, so many of them, or all if there are fewer; `read` tells which letters it reads."""
    edges = [(0, letter, letter, 0) for letter in read]
    edges += [(at, letter, "", at + 1) for at in range(many) for letter in read]
    return Rewriter(letters, {at: "" for at in range(many + 1)}, tuple(edges), {many: ""})


def going_round(many):
    """Writes something for each letter that begins a round of so many; each text has a result."""
    edges = tuple((at, "a", "" if at else "x", (at + 1) % many) for at in range(many))
    return Rewriter("a", {0: ""}, edges, {at: "" for at in range(many)})


def beginning_of(words):
    """The longest common beginning of some words."""
    low, high = min(words), max(words)
    while not high.startswith(low):
        low = low[:-1]
    return low


def long_rests(letters):
    """Rests, more than are needed to see what all of them begin with."""
    return all_texts(letters, {1: 14, 2: 6, 3: 4, 4: 3}[len(letters)])


def written_too(rewriter, marks, rests):
    """A dict from pairs (text, mark) to what all results begin with, for short texts."""
    found = {}
    for text in all_texts(rewriter.letters, 2):
        rows = {}
        for rest in rests:
            word = result_too(rewriter, text + rest)
            if word is not None:
                rows.setdefault(mark_too(marks, rest), []).append(word)
        found.update({(text, mark): beginning_of(words) for mark, words in rows.items()})
    return found


def fine_marks(rewriter):
    """One mark for each rest set, in the order in which they are met."""
    rows = list(rest_sets(rewriter))
    steps = {(letter, at): rows.index(sources_too(rewriter, row, letter)) for at, row in enumerate(rows) for letter in rewriter.letters}
    return Marks(rewriter.letters, steps, tuple(at for at, row in enumerate(rows) if set(row) & set(rewriter.starts)))


def shuffled(chance, marks):
    """The same marks with other numbers."""
    numbers = [0] + chance.sample(range(1, len(marks)), len(marks) - 1)
    return Marks(marks.letters, {(letter, numbers[mark]): numbers[after] for (letter, mark), after in marks.steps.items()},
                 tuple(sorted(numbers[mark] for mark in marks.good)))


def serve_too(marks, rewriter):
    """Whether marks serve a single rewriter: from each mark, rest sets that are alike, and good as they have starts."""
    if marks.letters != rewriter.letters:
        return False
    row = [(0, left_by_runs(rewriter, ""))]
    for mark, states in row:
        for letter in rewriter.letters:
            after = (marks.steps[(letter, mark)], sources_too(rewriter, states, letter))
            if after not in row:
                row.append(after)
    wild = wild_too(rewriter)
    return (all((mark in marks.good) == bool(set(states) & set(rewriter.starts)) for mark, states in row)
            and all(are_alike_too(rewriter, wild, states, others) for mark, states in row for other, others in row if mark == other))


def same_states(machine):
    """Pairs of states for one mark that do the same from there on."""
    kinds = {state: (machine.mark_of(state), machine.ends.get(state)) for state in machine.states}
    for _ in range(len(machine) + 1):
        kinds = {state: (kinds[state], tuple((word, kinds[after]) for (before, _, _), (word, after) in machine.steps.items() if before == state))
                 for state in machine.states}
        names = {}
        kinds = {state: names.setdefault(kind, len(names)) for state, kind in kinds.items()}
    return [(one, two) for one in machine.states for two in machine.states if one < two and kinds[one] == kinds[two]]


class TestEarly(Refusals, unittest.TestCase):
    def test_examples(self):
        machine = early(LAST)
        self.assertEqual([machine.begins, machine.steps[(2, "b", 0)], machine.ends, early(ADD) == ADDER, len(early(SWAP)), early(DROP).steps],
                         [{0: ('', 0), 1: ('', 1), 2: ('', 2)}, ('bb', 0), {0: ''}, True, 3, {(0, 'a', 0): ('', 1), (1, 'a', 0): ('a', 1)}])
        self.assertEqual([spread(DROP, "aa", "a"), written(DROP, "aa", "a"), written(LAST, "ab", "b"), spread(SWAP, "ab", "")],
                         [{0: 'a', 1: ''}, 'a', 'aabb', {0: ''}])
        self.assertEqual([early(DROP, marks=ENDS).steps, refined(early(DROP), ENDS) == early(DROP, marks=ENDS), is_early(refined(early(DROP), ENDS), DROP)],
                         [{(1, 'a', 0): ('', 0), (1, 'a', 1): ('a', 1)}, False, False])

    def check(self, rewriter, marks, machine):
        """The machine is the early one for these marks, word by word."""
        self.assertIs(type(machine), TwoPass)
        self.assertEqual(machine.marks, marks)
        self.assertEqual(machine.numbered(), machine)
        self.assertEqual(same_states(machine), [])
        rests = long_rests(rewriter.letters)
        wanted = written_too(rewriter, marks, rests)
        more = 0
        for text in all_texts(rewriter.letters, 2):
            for rest in rests[:16]:
                rows = list(machine.walk(text + rest))
                word = result_too(rewriter, text + rest)
                self.assertEqual("".join(word for word, _ in rows) if rows else None, word)
                if rows:
                    known = wanted[(text, mark_too(marks, rest))]
                    self.assertEqual("".join(word for word, _ in rows[:len(text) + 1]), known, (text, rest, rewriter.edges))
                    begun = [rewriter.starts[p] + part for p in rewriter.starts for q, part in runs_from(rewriter, p, text)
                             if left_by_runs(rewriter, rest) and q in left_by_runs(rewriter, rest)]
                    more += max(map(len, begun)) < len(known)
        self.assertTrue(does(machine, rewriter))
        self.assertIs(is_early(machine, rewriter), True)
        return more

    def rewriters(self, seed):
        return some_singles(seed)[:45] + random_singles(seed + 5, 12, states=4, letters="a", most=2, gaps=0.0) + [LAST, ADD, SWAP, DROP, TURNS, EMPTY, LATE]

    def test_with_the_least_marks(self):
        more = 0
        for rewriter in self.rewriters(170):
            machine = early(rewriter)
            more += self.check(rewriter, least_marks(rewriter), machine)
            self.assertEqual(early(rewriter, marks=None), machine)
            self.assertEqual(early(rewriter, marks=machine.marks), machine)
        # All that follows can begin alike, although no path has written it yet.
        self.assertGreater(more, 50)

    def test_with_other_marks(self):
        chance = random.Random(171)
        finer = 0
        for rewriter in self.rewriters(172):
            for marks in (fine_marks(rewriter), shuffled(chance, least_marks(rewriter)), shuffled(chance, fine_marks(rewriter))):
                finer += len(marks) > len(least_marks(rewriter))
                machine = early(rewriter, marks=marks)
                self.check(rewriter, marks, machine)
                least = early(rewriter)
                # What is refined does the same, perhaps later.
                late = refined(least, marks)
                self.assertTrue(does(late, rewriter))
                self.assertIs(is_early(late, rewriter), late == machine)
        self.assertGreater(finer, 8)

    def test_no_writer_with_these_marks_has_fewer_states(self):
        for rewriter in self.rewriters(174):
            for marks in (least_marks(rewriter), fine_marks(rewriter)):
                machine = early(rewriter, marks=marks)
                self.assertLessEqual(len(machine), len(refined(early(rewriter), marks)))

    def test_early_of_the_rewriter_of_an_early_machine(self):
        checked = 0
        for rewriter in self.rewriters(176):
            machine = early(rewriter)
            if len(machine) <= 12 and len(machine.steps) <= 64 and all(len(word) <= 8 for word, _ in [*machine.steps.values(), *machine.begins.values()]):
                self.assertEqual(early(machine.rewriter()), machine)
                self.assertTrue(is_early(machine, machine.rewriter()))
                fine = fine_marks(rewriter)
                self.assertEqual(early(machine.rewriter(), marks=fine), early(rewriter, marks=fine))
                checked += 1
        self.assertGreater(checked, 40)

    def test_words_that_no_path_has_written(self):
        self.assertEqual([written(LATE, "", "a"), written(LATE, "", "aa"), written(LATE, "aa", "")], ["xa", "xyx", "xyxa"])
        one = Rewriter("ab", {0: ""}, ((0, "a", "", 1), (0, "b", "", 1), (1, "a", "xy", 1), (1, "b", "xz", 1)), {0: "xy", 1: "xyz"})
        self.assertEqual([len(least_marks(one)), early(one).begins], [1, {0: ("x", 0)}])
        self.assertEqual([written(one, text, "") for text in ("", "a", "b", "ab", "abb")], ["x", "x", "x", "xzx", "xzxzx"])
        self.assertEqual([spread(one, text, "") for text in ("", "a", "ab")], [{0: ""}, {1: ""}, {1: ""}])

    def test_without_states(self):
        machine = early(EMPTY)
        self.assertEqual([machine.marks, machine.begins, machine.steps, machine.ends, len(machine)], [least_marks(EMPTY), {}, {}, {}, 0])
        two = Marks("ab", {("a", 0): 1, ("b", 0): 0, ("a", 1): 0, ("b", 1): 1}, ())
        self.assertEqual(early(EMPTY, marks=two), TwoPass(two, begins={}, steps={}, ends={}))
        self.assertTrue(is_early(early(EMPTY), EMPTY))
        self.refused(InvalidOperation, early, EMPTY, marks=Marks("ab", two.steps, (0,)))

    def test_1000_pairs_and_more(self):
        for many, around in ((250, 4), (200, 5), (111, 9)):
            machine = early(going_round(around), marks=counter(many, "a", tuple(range(many))))
            self.assertLessEqual(len(machine), 1000)
            self.assertEqual(machine("a" * 60), "x" * (-(-60 // around)))
        for many, around in ((143, 7), (91, 11), (256, 4)):
            marks = counter(many, "a", tuple(range(many)))
            self.assertEqual(self.refused(TooMany, early, going_round(around), marks=marks).limit, 1000)
            machine = random_machine(random.Random(177), marks, most=1)
            self.assertEqual(self.refused(TooMany, is_early, machine, going_round(around)).limit, 1000)
        self.assertEqual(len(early(dropping(7))), 255)
        self.assertEqual(self.refused(TooMany, early, dropping(9)).limit, 1000)
        self.assertEqual(self.refused(TooMany, early, many_sets()).limit, 1000)


class TestServe(Refusals, unittest.TestCase):
    def test_against_rest_sets(self):
        chance = random.Random(180)
        told = []
        for rewriter in some_singles(181)[:60] + [LAST, ADD, SWAP, DROP, TURNS, EMPTY]:
            least = least_marks(rewriter)
            some = [least, fine_marks(rewriter), shuffled(chance, least), Marks(least.letters, least.steps, least.good[1:]),
                    Marks(least.letters, least.steps, tuple(least)), counter(1, least.letters), counter(1, least.letters, ()), counter(2, least.letters, (0, 1))]
            some += random_marks(chance.randrange(10 ** 6), 4, most=3, letters=least.letters) + random_marks(chance.randrange(10 ** 6), 2)
            for marks in some:
                wanted = serve_too(marks, rewriter)
                told.append(wanted)
                self.assertIs(serve(marks, rewriter), wanted)
                if wanted:
                    self.assertEqual(early(rewriter, marks=marks).marks, marks)
                    self.assertIsNot(map_of(marks, least), None)
                else:
                    self.refused(InvalidOperation, early, rewriter, marks=marks)
                machine = random_machine(chance, marks, most=1)
                self.assertIs(is_early(machine, rewriter), wanted and machine == early(rewriter, marks=marks))
        self.assertGreater(told.count(True), 150)
        self.assertGreater(told.count(False), 300)

    def test_is_early(self):
        chance = random.Random(182)
        for rewriter in some_singles(183)[:40] + [LAST, ADD, SWAP, DROP, TURNS]:
            machine = early(rewriter)
            self.assertTrue(is_early(machine, rewriter))
            numbers = chance.sample(range(1000), len(machine))
            other = TwoPass(machine.marks, begins={mark: (word, numbers[state]) for mark, (word, state) in machine.begins.items()},
                            steps={(numbers[state], letter, mark): (word, numbers[after]) for (state, letter, mark), (word, after) in machine.steps.items()},
                            ends={numbers[state]: word for state, word in machine.ends.items()})
            self.assertIs(is_early(other, rewriter), other == machine)
            self.assertTrue(is_early(other.numbered(), rewriter))
            if machine:
                begins = {mark: (word + "q", state) for mark, (word, state) in machine.begins.items()}
                self.assertFalse(is_early(TwoPass(machine.marks, begins=begins, steps=machine.steps, ends=machine.ends), rewriter))
        self.assertFalse(is_early(early(LAST), ADD))
        self.assertFalse(is_early(early(ADD), DROP))
        self.assertFalse(is_early(early(DROP), ADD))


class TestSpread(Refusals, unittest.TestCase):
    def test_against_all_paths(self):
        seen = 0
        for rewriter in some_singles(190)[:50] + [LAST, ADD, SWAP, DROP, TURNS, LATE]:
            marks = least_marks(rewriter)
            rests = long_rests(rewriter.letters)
            known = written_too(rewriter, marks, rests)
            lefts = {}
            for rest in rests:
                lefts.setdefault(mark_too(marks, rest), set()).update(left_by_runs(rewriter, rest))
            for text in all_texts(rewriter.letters, 2):
                for rest in rests[:10]:
                    if not has_result_too(rewriter, text + rest):
                        self.refused(InvalidOperation, spread, rewriter, text, rest)
                        self.refused(InvalidOperation, written, rewriter, text, rest)
                        continue
                    mark = mark_too(marks, rest)
                    words = {q: rewriter.starts[p] + part for p in rewriter.starts for q, part in runs_from(rewriter, p, text) if q in lefts[mark]}
                    cut = len(beginning_of(list(words.values())))
                    found = spread(rewriter, text, rest)
                    self.assertEqual(found, {state: word[cut:] for state, word in words.items()})
                    self.assertEqual(list(found), sorted(found))
                    self.assertEqual(written(rewriter, text, rest), known[(text, mark)])
                    seen += len(found) > 1
        self.assertGreater(seen, 50)

    def test_as_the_early_machine_writes(self):
        chance = random.Random(191)
        for rewriter in some_singles(192)[:40] + [LAST, ADD, SWAP, DROP, TURNS]:
            machine = early(rewriter)
            for _ in range(6):
                text = "".join(chance.choice(rewriter.letters) for _ in range(chance.randint(0, 8)))
                rest = "".join(chance.choice(rewriter.letters) for _ in range(chance.randint(0, 8)))
                if has_result_too(rewriter, text + rest):
                    rows = list(machine.walk(text + rest))
                    self.assertEqual(written(rewriter, text, rest), "".join(word for word, _ in rows[:len(text) + 1]))

    def test_long_texts_and_rests(self):
        self.assertEqual(written(LAST, "ab" * 30, "a" * 59 + "b"), "aabb" * 30)
        self.assertEqual(spread(LAST, "ab" * 30, "a" * 59 + "b"), {3: ""})
        self.assertEqual(written(DROP, "a" * 60, "a" * 60), "a" * 59)
        self.assertEqual(spread(dropping(9), "ab" * 30, ""), {0: "babababab"} | {at: "babababab"[:9 - at] for at in range(1, 10)})
        self.assertEqual(spread(dropping(9), "abb", "b" * 7), {0: "abb", 1: "ab", 2: "a"} | {at: "" for at in range(3, 10)})
        self.assertEqual(self.refused(TooMany, written, dropping(9), "", "b" * 60).limit, 1000)

    def test_what_is_handed_out_is_a_copy(self):
        found = spread(DROP, "aa", "a")
        found[5] = "q"
        self.assertEqual(spread(DROP, "aa", "a"), {0: "a", 1: ""})


class TestRefusals(Refusals, unittest.TestCase):
    def test_arguments_in_their_order(self):
        for value in any_values():
            if not isinstance(value, Rewriter):
                self.refused(InvalidRewriter, early, value)
                self.refused(InvalidRewriter, early, value, marks=5)
                self.refused(InvalidRewriter, spread, value, None, None)
                self.refused(InvalidRewriter, written, value, None, None)
                self.refused(InvalidRewriter, is_early, ADDER, value)
                self.refused(InvalidRewriter, serve, ENDS, value)
            if not isinstance(value, Marks):
                if value is not None:
                    self.refused(InvalidMachine, early, LAST, marks=value)
                    self.refused(InvalidMachine, early, TWICE, marks=value)
                self.refused(InvalidMachine, serve, value, None)
            if not isinstance(value, TwoPass):
                self.refused(InvalidMachine, is_early, value, None)
            wanted = None
            if not isinstance(value, str) or value.strip("abcdefghijklmnopqrstuvwxyz") or len(value) > 60:
                wanted = InvalidText
            elif value.strip("ab"):
                wanted = InvalidOperation
            for call in (spread, written):
                self.same_as_told(wanted, call, LAST, value, "")
                self.same_as_told(wanted, call, LAST, "", value)
                self.same_as_told(wanted or InvalidText, call, LAST, value, None)
                self.same_as_told(wanted or NotSingle, call, TWICE, "a", value)
        with self.assertRaises(TypeError):
            early(LAST, least_marks(LAST))

    def test_two_results_many_rest_sets_and_then_what_is_told(self):
        more, exactly = many_sets(more=True), many_sets()
        both = Rewriter("abcd", more.starts, more.edges + ((0, "d", "a", 0),), more.ends)
        four = Marks("abcd", {(letter, 0): 0 for letter in "abcd"}, (0,))
        machine = early(Rewriter.copying("abcd"))
        for call, values, told in ((early, (), {}), (early, (), {"marks": four}), (early, (), {"marks": ENDS}), (spread, ("a", "b"), {}), (written, ("a", "b"), {})):
            for rewriter in (TWICE, both):
                paper = self.refused(NotSingle, call, rewriter, *values, **told).paper
                self.assertTrue(is_single_paper(rewriter, paper))
                self.assertEqual(paper[0], "two")
            self.assertEqual(self.refused(TooMany, call, more, *values, **told).limit, 256)
        for rewriter in (CHOICE, TWICE, both):
            for marks in (four, ENDS):
                self.assertTrue(is_single_paper(rewriter, self.refused(NotSingle, serve, marks, rewriter).paper))
            self.assertTrue(is_single_paper(rewriter, self.refused(NotSingle, is_early, machine, rewriter).paper))
        for marks in (four, ENDS):
            self.assertEqual(self.refused(TooMany, serve, marks, more).limit, 256)
            self.assertFalse(serve(marks, exactly))
            self.refused(InvalidOperation, early, exactly, marks=marks)
        self.assertEqual(self.refused(TooMany, is_early, machine, more).limit, 256)
        self.assertFalse(is_early(machine, exactly))
        self.assertTrue(serve(least_marks(exactly), exactly))
        # A text without a result is told ahead of too many spreads.
        self.refused(InvalidOperation, written, dropping(9, "abc"), "ac", "")
        self.refused(InvalidOperation, written, dropping(9, "abc"), "a", "c")
        self.refused(TooMany, written, dropping(9, "abc"), "a" * 5, "a" * 5)
        self.refused(InvalidOperation, early, dropping(9), marks=counter(2, "ab"))


if __name__ == "__main__":
    unittest.main()
