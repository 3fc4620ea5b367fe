"""Equality: [13.1], [0.19], [0.22], [0.23], and module fewmarks.machines.equal."""
import random
import unittest

from fewmarks.base.results import result
from fewmarks.base.rewriters import Rewriter
from fewmarks.errors import InvalidOperation, InvalidRewriter, NotSingle, TooMany
from fewmarks.machines.early import early
from fewmarks.machines.equal import equality_paper, have_equal_results, is_equality_paper, parting_text
from fewmarks.pairs.single import is_single, is_single_paper
from helpers import (ADD, CHOICE, DROP, EMPTY, LAST, SWAP, TURNS, TWICE, Refusals, all_texts, any_values, many_sets)
from second_ways import left_by_runs, left_over_too, result_too, sources_too
from test_early import LATE, dropping
from test_machines import ADDER, other_rewriters
from test_papers import some_singles

PLAIN = Rewriter.copying("ab")


def with_state_twice(chance, rewriter):
    """The rewriter with one more state that does what another one does, and gets some of its edges."""
    free = [state for state in range(12) if state not in rewriter.states]
    if not free or not rewriter.states:
        return rewriter
    old, new = chance.choice(rewriter.states), chance.choice(free)
    edges = []
    for state, letter, word, after in rewriter.edges:
        goal = new if after == old and chance.random() < 0.5 else after
        edges.append((state, letter, word, goal))
        if state == old:
            edges.append((new, letter, word, chance.choice((old, new)) if after == old else after))
    ends = dict(rewriter.ends)
    if old in ends:
        ends[new] = ends[old]
    return Rewriter(rewriter.letters, rewriter.starts, tuple(edges), ends) if len(set(edges)) <= 64 else rewriter


def with_words_moved(chance, rewriter):
    """The rewriter where a state gets a last letter of what leads to it later, if all of that ends with it."""
    for state in chance.sample(rewriter.states, len(rewriter.states)):
        before = [edge[2] for edge in rewriter.edges if edge[3] == state] + [rewriter.starts[at] for at in rewriter.starts if at == state]
        if not before or not all(word[-1:] == before[0][-1:] != "" for word in before):
            continue
        letter = before[0][-1]
        edges = []
        for edge in rewriter.edges:
            word = letter + edge[2] if edge[0] == state else edge[2]
            edges.append((edge[0], edge[1], word[:-1] if edge[3] == state else word, edge[3]))
        starts = {at: word[:-1] if at == state else word for at, word in rewriter.starts.items()}
        ends = {at: letter + word if at == state else word for at, word in rewriter.ends.items()}
        words = [edge[2] for edge in edges] + list(ends.values())
        if max(map(len, words)) <= 8:
            return Rewriter(rewriter.letters, starts, tuple(edges), ends)
    return rewriter


def other_forms(chance, rewriter):
    """Rewriters with the same results."""
    numbers = chance.sample(range(12), len(rewriter.states))
    made = [rewriter, rewriter.renumbered(dict(zip(rewriter.states, numbers))), with_state_twice(chance, rewriter), with_words_moved(chance, rewriter)]
    made.append(with_words_moved(chance, with_state_twice(chance, made[1])))
    machine = early(rewriter)
    words = [word for word, _ in [*machine.begins.values(), *machine.steps.values()]] + list(machine.ends.values())
    if len(machine) <= 12 and len(machine.steps) <= 64 and all(len(word) <= 8 for word in words):
        made.append(machine.rewriter())
    return made


def live_too(one, other):
    """The pairs (state of the one, state of the other) on rows of common steps from starts to ends, with their steps."""
    row = [(p, q) for p in one.starts for q in other.starts]
    moves = {}
    for pair in row:
        if pair not in moves:
            moves[pair] = [((edge[2], beside[2]), (edge[3], beside[3])) for edge in one.edges for beside in other.edges
                           if (edge[0], beside[0]) == pair and edge[1] == beside[1]]
            row += [after for _, after in moves[pair]]
    live = {(p, q) for p, q in moves if p in one.ends and q in other.ends}
    more = live
    while more:
        more = {pair for pair in moves if pair not in live and any(after in live for _, after in moves[pair])}
        live = live | more
    return {pair: [move for move in moves[pair] if move[1] in live] for pair in live}


def is_right_paper(one, other, paper):
    """Whether a paper of right kinds of values is right, told as [13.1] tells it."""
    if paper[0] == "unlike":
        return result_too(one, paper[1]) != result_too(other, paper[1])
    _, pairs, delays = paper
    if (left_by_runs(one, ""), left_by_runs(other, "")) not in pairs or list(pairs) != sorted(set(pairs)):
        return False
    for first, second in pairs:
        if bool(set(first) & set(one.starts)) != bool(set(second) & set(other.starts)):
            return False
        if any((sources_too(one, first, letter), sources_too(other, second, letter)) not in pairs for letter in one.letters):
            return False
    moves = live_too(one, other)
    if set(delays) != set(moves):
        return False
    for (p, q), (x, y) in delays.items():
        if p in one.starts and q in other.starts and left_over_too(one.starts[p], other.starts[q]) != (x, y):
            return False
        if p in one.ends and q in other.ends and left_over_too(x + one.ends[p], y + other.ends[q]) != ("", ""):
            return False
        if any(left_over_too(x + word, y + beside) != delays[after] for (word, beside), after in moves[(p, q)]):
            return False
    return True


class TestEqual(Refusals, unittest.TestCase):
    def test_examples(self):
        self.assertEqual([have_equal_results(LAST, LAST), equality_paper(LAST, PLAIN)[0], is_equality_paper(LAST, PLAIN, ("unlike", "b")),
                          parting_text(ADD, ADD)], [True, 'unlike', True, None])
        self.assertEqual([is_equality_paper(PLAIN, PLAIN, ("equal", (((0,), (0,)),), {(0, 0): ("", "")})), have_equal_results(ADD, ADDER.rewriter())],
                         [True, True])

    def check(self, one, other):
        """Whatever the paper says is right, and all functions say the same."""
        paper = equality_paper(one, other)
        self.assertTrue(is_right_paper(one, other, paper), (one.edges, other.edges, paper))
        self.assertIs(is_equality_paper(one, other, paper), True)
        equal = paper[0] == "equal"
        self.assertEqual(paper[0], "equal" if equal else "unlike")
        self.assertEqual(len(paper), 3 if equal else 2)
        self.assertIs(have_equal_results(one, other), equal)
        self.assertIs(have_equal_results(other, one), equal)
        self.assertIs(early(one) == early(other), equal)
        unlike = [text for text in all_texts(one.letters, 4) if result_too(one, text) != result_too(other, text)]
        for text in all_texts(one.letters, 2):
            self.assertIs(is_equality_paper(one, other, ("unlike", text)), text in unlike)
        found = parting_text(one, other)
        if equal:
            self.assertEqual(unlike, [])
            self.assertIs(found, None)
            self.assertEqual(list(paper[2]), sorted(paper[2]))
            return True
        text, word, beside = found
        self.assertEqual((word, beside), (result_too(one, text), result_too(other, text)))
        self.assertNotEqual(word, beside)
        if len(text) <= 60:
            self.assertEqual((word, beside), (result(one, text), result(other, text)))
        self.assertIs(is_equality_paper(one, other, ("unlike", text)), True)
        return False

    def test_one_rewriter_in_several_forms(self):
        chance = random.Random(200)
        moved = 0
        for rewriter in some_singles(201)[:60] + [LAST, ADD, SWAP, DROP, TURNS, EMPTY, LATE]:
            forms = other_forms(chance, rewriter)
            for form in forms:
                moved += form != rewriter
                self.assertTrue(self.check(rewriter, form))
            self.assertTrue(self.check(forms[2], forms[4]))
        self.assertGreater(moved, 120)

    def test_near_ones(self):
        chance = random.Random(205)
        told = []
        for rewriter in some_singles(206)[:60] + [LAST, ADD, SWAP, DROP, TURNS, LATE]:
            form = other_forms(chance, rewriter)[-1]
            for other in other_rewriters(chance, rewriter):
                told.append(self.check(form, other))
                told.append(self.check(other, form))
        self.assertGreater(told.count(False), 300)

    def test_drawn_ones(self):
        some = [rewriter for rewriter in some_singles(210) if rewriter.letters == "ab"]
        told = [self.check(one, other) for one in some[:14] for other in some[:14]]
        self.assertGreaterEqual(told.count(True), 14)

    def test_without_states(self):
        none = Rewriter("ab", {0: "x"}, (), {1: "y"})
        self.assertEqual(equality_paper(EMPTY, none), ("equal", (((), ()),), {}))
        self.assertTrue(self.check(EMPTY, none))
        self.assertFalse(self.check(EMPTY, PLAIN))
        self.assertEqual(parting_text(PLAIN, EMPTY), ("", "", None))

    def test_far_texts(self):
        def only(many, word=""):
            return Rewriter("a", {0: ""}, tuple((at, "a", "", at + 1) for at in range(many)) + ((0, "a", "", 0),), {many: word})
        self.assertFalse(self.check(only(10), only(11)))
        self.assertEqual(parting_text(only(11), only(11, "x")), ("a" * 11, "", "x"))
        rings = [Rewriter("a", {0: ""}, tuple((at, "a", "x" if at == 0 else "", (at + 1) % many) for at in range(many)),
                          {at: "" for at in range(many)}) for many in (11, 12)]
        self.assertEqual(len(parting_text(*rings)[0]), 12)
        five = Rewriter("a", {0: ""}, tuple((at, "a", "", (at + 1) % 5) for at in range(5)), {0: ""})
        seven = Rewriter("a", {0: ""}, tuple((at, "a", "", (at + 1) % 7) for at in range(7)), {0: ""})
        for text, wanted in (("a" * 70, False), ("a" * 65, True), ("a" * 63, True), ("a" * 700, False), ("a" * 705, True), ("a" * 65 + "b", False)):
            self.assertIs(is_equality_paper(five, seven, ("unlike", text)), wanted)


class TestIsPaper(Refusals, unittest.TestCase):
    def test_right_papers_of_a_foreign_hand(self):
        pairs, delays = equality_paper(ADD, ADD)[1:]
        self.assertEqual(pairs, (((0,), (0,)), ((1,), (1,))))
        for more in (((0, 1), (0, 1)), ((0, 1), (1,)), ((1,), (0,)), ((0, 1), (0,))):
            wanted = is_right_paper(ADD, ADD, ("equal", tuple(sorted(pairs + (more,))), delays))
            self.assertIs(is_equality_paper(ADD, ADD, ("equal", tuple(sorted(pairs + (more,))), delays)), wanted)
        self.assertTrue(is_equality_paper(ADD, ADD, ("equal", (((0,), (0,)), ((0, 1), (0, 1)), ((1,), (1,))), delays)))
        self.assertTrue(is_equality_paper(ADD, ADD, ("equal", pairs, dict(reversed(delays.items())))))
        other = ADD.renumbered({0: 7, 1: 3})
        self.assertTrue(is_equality_paper(ADD, other, ("equal", (((0,), (7,)), ((1,), (3,))), {(0, 7): ("", ""), (1, 3): ("", "")})))
        self.assertFalse(is_equality_paper(other, ADD, ("equal", (((0,), (7,)), ((1,), (3,))), {(0, 7): ("", ""), (1, 3): ("", "")})))

    def test_bent_papers(self):
        chance = random.Random(211)
        bent = right = 0
        for rewriter in some_singles(212)[:50] + [LAST, ADD, SWAP, DROP, TURNS, LATE]:
            for other in other_forms(chance, rewriter)[1:4]:
                _, pairs, delays = equality_paper(rewriter, other)
                rows = [("equal", pairs[:at] + pairs[at + 1:], delays) for at in range(len(pairs))]
                rows += [("equal", pairs, {key: delays[key] for key in delays if key != left_out}) for left_out in delays]
                rows += [("equal", pairs, {**delays, key: value}) for key in list(delays)[:6] for value in (("", ""), ("a", ""), ("", "b"), ("a", "b"))]
                rows += [("equal", pairs, {**delays, (p, q): ("", "")}) for p in rewriter.states for q in other.states]
                rows += [("equal", tuple(sorted(set(pairs) | {more})), delays) for more in (((), ()), (rewriter.states, other.states), ((), other.states))]
                for paper in rows:
                    wanted = is_right_paper(rewriter, other, paper)
                    self.assertIs(is_equality_paper(rewriter, other, paper), wanted, paper)
                    bent += not wanted
                    right += wanted
                if len(pairs) > 1:
                    self.assertFalse(is_equality_paper(rewriter, other, ("equal", pairs[::-1], delays)))
                for wrong in (pairs + pairs[-1:], list(pairs), tuple(list(pair) for pair in pairs) or None, tuple((list(x), y) for x, y in pairs)):
                    self.assertFalse(is_equality_paper(rewriter, other, ("equal", wrong, delays)))
        self.assertGreater(bent, 2000)
        self.assertGreater(right, 300)

    def test_kinds_of_values(self):
        pairs, delays = equality_paper(ADD, ADD)[1:]
        self.assertEqual(delays, {(0, 0): ("", ""), (1, 1): ("", "")})
        for wrong in (["equal", pairs, delays], ("equal", pairs), ("equal", pairs, delays, ()), ("same", pairs, delays), ("unlike", pairs, delays), ("unlike", ""),
                      ("unlike", "a"), ("unlike", "ab"), ("equal", (((False,), (0,)), ((1,), (1,))), delays), ("equal", (((0,), (0,)), ((1,), (True,))), delays),
                      ("equal", pairs, {(0, 0): ("", ""), (True, 1): ("", "")}), ("equal", pairs, {(0, False): ("", ""), (1, 1): ("", "")}),
                      ("equal", pairs, {(0, 0): ["", ""], (1, 1): ("", "")}), ("equal", pairs, {(0, 0): ("", ""), (1, 1): ("", ""), (1, 1, 1): ("", "")}),
                      ("equal", pairs, list(delays)), ("equal", pairs, {(0, 0): ("", ""), (1, 1): ("a", "a")}), ("equal", pairs + (((5,), (5,)),), delays)):
            self.assertFalse(is_equality_paper(ADD, ADD, wrong), wrong)
        for kind in ("equal", "fails", "text", "", None, 0, True, ()):
            self.assertFalse(is_equality_paper(LAST, PLAIN, (kind, "b")))
        for value in any_values():
            for paper in (value, ("unlike", value), ("equal", value, delays), ("equal", pairs, value), ("equal", (value,), delays)):
                self.assertIs(is_equality_paper(ADD, ADD, paper), False)
            self.assertIs(is_equality_paper(ADD, ADD, ("equal", pairs, {**delays, (1, 1): value})), isinstance(value, tuple) and value == ("", ""))


class TestRefusals(Refusals, unittest.TestCase):
    CALLS = ((have_equal_results, ()), (equality_paper, ()), (is_equality_paper, (None,)), (parting_text, ()))

    def test_arguments_in_their_order(self):
        for call, last in self.CALLS:
            for value in any_values():
                if not isinstance(value, Rewriter):
                    self.refused(InvalidRewriter, call, value, None, *last)
                    self.refused(InvalidRewriter, call, value, ADD, *last)
                    self.refused(InvalidRewriter, call, TWICE, value, *last)
            self.refused(InvalidOperation, call, ADD, DROP, *last)
            self.refused(InvalidOperation, call, CHOICE, TWICE, *last)

    def test_two_results_and_many_rest_sets(self):
        more, exactly = many_sets(more=True), many_sets()
        both = Rewriter("abcd", more.starts, more.edges + ((0, "d", "a", 0),), more.ends)
        twice = Rewriter("abcd", exactly.starts, exactly.edges + ((0, "d", "a", 0),), exactly.ends)
        self.assertFalse(is_single(both) or is_single(twice))
        for call, last in self.CALLS:
            for one, other, wrong in ((both, twice, both), (twice, both, twice), (more, both, both), (exactly, twice, twice), (both, more, both)):
                paper = self.refused(NotSingle, call, one, other, *last).paper
                self.assertTrue(is_single_paper(wrong, paper))
                self.assertEqual(paper[0], "two")
            for one, other in ((more, exactly), (exactly, more), (more, more)):
                self.assertEqual(self.refused(TooMany, call, one, other, *last).limit, 256)
            call(exactly, exactly, *last)
        self.assertTrue(have_equal_results(exactly, exactly))
        self.assertFalse(have_equal_results(exactly, Rewriter.copying("abcd")))
        # More than 1000 spreads do not matter here.
        self.assertTrue(have_equal_results(dropping(9), dropping(9).renumbered({at: 9 - at for at in range(10)})))
        self.assertFalse(have_equal_results(dropping(9), dropping(8)))


if __name__ == "__main__":
    unittest.main()
