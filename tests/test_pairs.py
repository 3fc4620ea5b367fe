"""Pairs: [0.11], [0.12], and module fewmarks.pairs.pairs."""
import itertools
import unittest

from fewmarks.base.rewriters import Rewriter
from fewmarks.pairs.pairs import (circle, leads_to, live_pairs, loud_pairs, pair_steps, path_delay, reached_pairs,
                                  two_path)
from fewmarks.errors import InvalidOperation, InvalidRewriter
from helpers import (ADD, CHOICE, EMPTY, KNOWN, LAST, SAME, SWAP, Refusals, any_values, is_whole, random_rewriters, ring,
                     two_rings)

SOME = random_rewriters(40, 150, states=5) + random_rewriters(41, 150, states=4, most=1) + list(KNOWN) + [ring(5), ring(7), two_rings()]


def all_pairs(rewriter):
    return list(itertools.product(rewriter.states, repeat=2))


def steps_too(rewriter, pair):
    """The steps of a pair, from all pairs of edges."""
    return sorted((one[1], one[2], two[2], (one[3], two[3])) for one in rewriter.edges for two in rewriter.edges
                  if one[1] == two[1] and (one[0], two[0]) == pair)


def leads_too(rewriter):
    """The set of all (pair, pair) where the one leads to the other, by going over each pair between."""
    pairs = all_pairs(rewriter)
    onward = {pair: {pair} | {step[3] for step in steps_too(rewriter, pair)} for pair in pairs}
    for between in pairs:
        for pair in pairs:
            if between in onward[pair]:
                onward[pair] |= onward[between]
    return onward


def pairs_too(rewriter):
    """The reached, the loud and the live pairs."""
    onward = leads_too(rewriter)
    begins = list(itertools.product(rewriter.starts, repeat=2))
    closing = set(itertools.product(rewriter.ends, repeat=2))
    reached = sorted({goal for begin in begins for goal in onward[begin]})
    telling = [(pair, step[3]) for pair in reached for step in steps_too(rewriter, pair) if step[1] or step[2]]
    loud = [pair for pair in reached if any(one in onward[pair] and pair in onward[two] for one, two in telling)]
    live = [pair for pair in reached if onward[pair] & closing]
    return tuple(reached), tuple(loud), tuple(live)


def goes(rewriter, state, edges, text):
    """The state behind a row of edges that reads a text, or None if it is no such row."""
    if type(edges) is not tuple or len(edges) != len(text):
        return None
    for edge, letter in zip(edges, text):
        if edge not in rewriter.edges or edge[0] != state or edge[1] != letter:
            return None
        state = edge[3]
    return state


class TestPairs(Refusals, unittest.TestCase):
    def test_examples(self):
        self.assertEqual([reached_pairs(ADD), loud_pairs(ADD), live_pairs(ADD), pair_steps(ADD, (0, 1))],
                         [((0, 0), (0, 1), (1, 0), (1, 1)), ((0, 0), (0, 1), (1, 0), (1, 1)), ((0, 0), (1, 1)), (('b', 'b', 'a', (0, 1)),)])
        self.assertEqual([leads_to(ADD, (0, 0), (0, 1)), leads_to(ADD, (1, 1), (0, 0)),
                          path_delay(ADD, (0, ((0, "b", "b", 0),)), (1, ((1, "b", "a", 1),)))], [True, False, ('b', 'a')])

    def test_kinds_of_pairs(self):
        louds = 0
        for rewriter in SOME:
            reached, loud, live = pairs_too(rewriter)
            self.assertEqual((reached_pairs(rewriter), loud_pairs(rewriter), live_pairs(rewriter)), (reached, loud, live))
            louds += 0 < len(loud) < len(reached)
        self.assertGreater(louds, 20)

    def test_steps_and_what_they_lead_to(self):
        for rewriter in SOME[::3]:
            onward = leads_too(rewriter)
            for pair in all_pairs(rewriter):
                self.assertEqual(pair_steps(rewriter, pair), tuple(steps_too(rewriter, pair)))
                for goal in all_pairs(rewriter):
                    self.assertIs(leads_to(rewriter, pair, goal), goal in onward[pair])

    def test_equal_states_and_edges_in_a_pair(self):
        self.assertEqual(pair_steps(CHOICE, (0, 0)), (("a", "a", "a", (0, 0)), ("a", "a", "b", (0, 0)), ("a", "b", "a", (0, 0)), ("a", "b", "b", (0, 0))))
        self.assertEqual(loud_pairs(CHOICE), ((0, 0),))
        self.assertEqual(loud_pairs(SAME), ())
        self.assertEqual((reached_pairs(EMPTY), loud_pairs(EMPTY), live_pairs(EMPTY)), ((), (), ()))

    def test_a_pair_leads_to_itself(self):
        lone = Rewriter("a", {0: "", 1: ""}, ((0, "a", "", 1),), {1: ""})
        self.assertIs(leads_to(lone, (1, 1), (1, 1)), True)
        self.assertIs(leads_to(lone, (0, 0), (1, 1)), True)
        self.assertIs(leads_to(lone, (1, 1), (0, 0)), False)
        # Pairs lead on whether they are reached or not.
        apart = Rewriter("ab", {0: ""}, ((0, "a", "", 1), (0, "b", "", 2), (1, "a", "", 1), (2, "a", "", 2)), {1: "", 2: ""})
        self.assertNotIn((1, 2), reached_pairs(apart))
        self.assertIs(leads_to(apart, (1, 2), (1, 2)), True)
        self.assertEqual(pair_steps(apart, (1, 2)), (("a", "", "", (1, 2)),))

    def test_circles_on_which_one_side_alone_writes(self):
        side = Rewriter("a", {0: "", 1: ""}, ((0, "a", "", 0), (1, "a", "x", 1)), {0: "", 1: ""})
        self.assertEqual(loud_pairs(side), ((0, 1), (1, 0), (1, 1)))
        for pair in loud_pairs(side):
            self.assertEqual(circle(side, pair), ("a", (side.edges[pair[0]],), (side.edges[pair[1]],)))

    def test_circles_that_write_and_are_not_reached(self):
        apart = Rewriter("ab", {0: ""}, ((0, "a", "", 1), (0, "b", "", 2), (1, "a", "x", 1), (2, "a", "x", 2)), {1: "", 2: ""})
        self.assertEqual(loud_pairs(apart), ((1, 1), (2, 2)))
        self.refused(InvalidOperation, circle, apart, (1, 2))
        self.refused(InvalidOperation, two_path, apart, (2, 1))

    def test_words_that_lie_on_no_circle(self):
        quiet = Rewriter("ab", {0: "abc"}, ((0, "a", "x", 1), (1, "a", "", 1), (1, "b", "y", 2), (2, "a", "", 2)), {2: "zzz", 1: "q"})
        self.assertEqual(loud_pairs(quiet), ())
        self.assertEqual(loud_pairs(quiet.with_edge((2, "b", "", 1))), ((1, 1), (2, 2)))
        for pair in itertools.product((0, 1, 2), repeat=2):
            self.refused(InvalidOperation, circle, quiet, pair)

    def test_two_paths(self):
        for rewriter in SOME:
            for pair in all_pairs(rewriter):
                if pair not in reached_pairs(rewriter):
                    self.refused(InvalidOperation, two_path, rewriter, pair)
                    continue
                text, path, other = two_path(rewriter, pair)
                self.assertIn(path[0], rewriter.starts)
                self.assertIn(other[0], rewriter.starts)
                self.assertEqual((goes(rewriter, *path, text), goes(rewriter, *other, text)), pair)

    def test_circles(self):
        for rewriter in SOME:
            for pair in all_pairs(rewriter):
                if pair not in loud_pairs(rewriter):
                    self.refused(InvalidOperation, circle, rewriter, pair)
                    continue
                text, edges, others = circle(rewriter, pair)
                self.assertNotEqual(text, "")
                self.assertEqual((goes(rewriter, pair[0], edges, text), goes(rewriter, pair[1], others, text)), pair)
                self.assertTrue(any(edge[2] for edge in edges + others))

    def test_rings_of_five_and_seven_states(self):
        rings = two_rings()
        self.assertEqual(len(reached_pairs(rings)), 5 + 7 + 70)
        self.assertEqual(len(loud_pairs(rings)), 82)
        for pair in itertools.product(range(5), range(5, 12)):
            text, path, other = two_path(rings, pair)
            self.assertEqual((len(text) % 5, len(text) % 7), (pair[0], pair[1] - 5))
            self.assertEqual((goes(rings, *path, text), goes(rings, *other, text)), pair)
            text, edges, others = circle(rings, pair)
            self.assertEqual(len(text) % 35, 0)
            self.assertEqual((goes(rings, pair[0], edges, text), goes(rings, pair[1], others, text)), pair)

    def test_as_many_edges_as_there_can_be(self):
        full = Rewriter("ab", {0: ""}, tuple((p, "ab"[k % 2], "x" * (k % 3), (3 * p + k) % 12) for p in range(12) for k in range(5)), {0: ""})
        self.assertEqual(len(full), 60)
        self.assertEqual((reached_pairs(full), loud_pairs(full), live_pairs(full)), pairs_too(full))


class TestPathDelay(Refusals, unittest.TestCase):
    def test_words_of_unlike_length(self):
        many = Rewriter("ab", {0: "xy", 1: "x"}, ((0, "a", "ab", 0), (0, "b", "", 1), (1, "a", "yab", 1), (1, "b", "q", 1)), {0: "end", 1: "end"})
        one = (0, ((0, "a", "ab", 0), (0, "a", "ab", 0)))
        other = (1, ((1, "a", "yab", 1), (1, "a", "yab", 1)))
        self.assertEqual(path_delay(many, one, other), ("ab", "yab"))
        self.assertEqual(path_delay(many, other, one), ("yab", "ab"))
        self.assertEqual(path_delay(many, (0, ()), (1, ())), ("y", ""))
        self.assertEqual(path_delay(many, (0, one[1][:1]), (1, other[1][:1])), ("", ""))
        self.assertEqual(path_delay(many, one, one), ("", ""))
        self.assertEqual(path_delay(many, (0, ((0, "b", "", 1),)), (1, ((1, "b", "q", 1),))), ("y", "q"))

    def test_words_of_ends_are_not_counted(self):
        self.assertEqual(path_delay(SWAP, (0, ((0, "a", "", 1),)), (0, ((0, "a", "", 1),))), ("", ""))
        ends = Rewriter("a", {0: "", 1: "b"}, (), {0: "bc", 1: "c"})
        self.assertEqual(path_delay(ends, (0, ()), (1, ())), ("", "b"))

    def test_long_paths(self):
        path, other = (0, ((0, "a", "a", 0),) * 3000), (2, ((2, "a", "aa", 2),) * 3000)
        self.assertEqual(path_delay(LAST, path, other), ("", "a" * 3000))

    def test_no_paths_and_unlike_texts(self):
        good = (0, ((0, "a", "a", 0),))
        for value in any_values():
            right = value == (0, ((0, "a", "a", 0),)) and type(value) is tuple
            self.same_as_told(None if right else InvalidOperation, path_delay, LAST, value, good)
            self.same_as_told(None if right else InvalidOperation, path_delay, LAST, good, value)
        self.refused(InvalidOperation, path_delay, LAST, good, (0, ((0, "b", "b", 1),)))
        self.refused(InvalidOperation, path_delay, LAST, good, (0, ()))
        self.refused(InvalidOperation, path_delay, LAST, (0, ((0, "a", "a", False),)), good)
        self.refused(InvalidOperation, path_delay, LAST, (0, [(0, "a", "a", 0)]), good)


class TestRefusals(Refusals, unittest.TestCase):
    def test_no_rewriters(self):
        for value in any_values():
            if isinstance(value, Rewriter):
                continue
            for call in (reached_pairs, loud_pairs, live_pairs):
                self.refused(InvalidRewriter, call, value)
            for call in (pair_steps, two_path, circle):
                self.refused(InvalidRewriter, call, value, None)
            self.refused(InvalidRewriter, leads_to, value, None, None)
            self.refused(InvalidRewriter, path_delay, value, None, None)

    def test_pairs_and_goals(self):
        for rewriter in (LAST, ADD, EMPTY):
            for value in any_values():
                right = (type(value) is tuple and len(value) == 2
                         and all(is_whole(state) and state in rewriter.states for state in value))
                wanted = None if right else InvalidOperation
                self.same_as_told(wanted, pair_steps, rewriter, value)
                if rewriter.states:
                    self.same_as_told(wanted, leads_to, rewriter, value, (0, 0))
                    self.same_as_told(wanted, leads_to, rewriter, (0, 0), value)
                self.same_as_told(None if right and value in reached_pairs(rewriter) else InvalidOperation, two_path, rewriter, value)
                self.same_as_told(None if right and value in loud_pairs(rewriter) else InvalidOperation, circle, rewriter, value)
        for value in ((0, True), (False, 1), [0, 1], (0,), (0, 1, 1), (0, 2), (0, "1"), (0, None), ((0,), 1)):
            for call in (pair_steps, two_path, circle):
                self.refused(InvalidOperation, call, ADD, value)


if __name__ == "__main__":
    unittest.main()
