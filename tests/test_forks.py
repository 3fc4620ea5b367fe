"""Forks: [0.14], [8.1], [0.22], and module fewmarks.rests.forks."""
import unittest

from fewmarks.base.rewriters import Rewriter
from fewmarks.errors import InvalidNumber, InvalidOperation, InvalidRewriter
from fewmarks.pairs.single import is_single
from fewmarks.rests.forks import fork, fork_delay, is_fork, wild_pairs
from helpers import (ADD, CHOICE, DROP, EMPTY, KNOWN, LAST, SAME, SWAP, TURNS, TWICE, Refusals, any_values, is_whole,
                     random_rewriters, random_singles, two_rings)
from second_ways import delays_too, is_paths_fork, left_over_too, reached_steps_too, wild_too

EXAMPLE = ("", "a", "", (0, ((0, "a", "a", 0),)), (2, ((2, "a", "aa", 2),)))

# The delays at (1, 2) are ("x", "") and ("y", ""), and "b" is written behind them round and round.
UNLIKE = Rewriter("abc", {0: ""}, ((0, "a", "b", 1), (0, "b", "c", 1), (0, "a", "", 2), (0, "b", "", 2),
                                   (1, "c", "b", 1), (2, "c", "b", 2)), {1: "", 2: ""})
# The same, but here the delay that the circle keeps is the one that is met later.
LATER = Rewriter("abc", {0: ""}, ((0, "a", "c", 1), (0, "b", "b", 1), (0, "a", "", 2), (0, "b", "", 2),
                                  (1, "c", "b", 1), (2, "c", "b", 2)), {1: "", 2: ""})
# Both words are not "" where both paths go round.
CLASH = Rewriter("ab", {0: "", 1: ""}, ((0, "a", "x", 2), (1, "a", "y", 3), (2, "b", "z", 2), (3, "b", "z", 3)), {2: "", 3: ""})
# What both write is as long, but "a" and then "ab" is not "ab" and then "a".
TURNED = Rewriter("ab", {0: "a", 1: ""}, ((0, "a", "ab", 0), (1, "a", "ab", 1)), {0: "", 1: ""})
# What both write is as long, and "a" and then "ba" is "ab" and then "a", so that the delay is kept.
KEPT = Rewriter("ab", {0: "a", 1: ""}, ((0, "a", "ba", 0), (1, "a", "ab", 1)), {0: "", 1: "a"})
# Between the pair of the circle and the ends are pairs without circles.
BEHIND = Rewriter("ab", {0: "", 1: ""}, ((0, "a", "x", 0), (1, "a", "xx", 1), (0, "b", "", 2), (1, "b", "", 3),
                                         (2, "a", "", 4), (3, "a", "", 5)), {4: "", 5: ""})


def bent_forks(value):
    """Forks that are changed in ways that keep the right kinds of values, right or not."""
    one, two, three, path, other = value
    at, many = len(one), len(two)
    rows = [(one, two, three, other, path), (one + two, two, three, path, other), (three, two, one, path, other),
            (one, "", three, path, other), (one, two, three, path, path), (one, two, three, other, other),
            (one, two, three + "a", path, other), (one + "b", two, three, path, other)]

    def round_again(trail, times):
        return (trail[0], trail[1][:at] + trail[1][at:at + many] * times + trail[1][at + many:])
    for times in (0, 2, 3):
        paths = round_again(path, times), round_again(other, times)
        rows.append((one, two * times, three) + paths)
        rows.append((one + two * max(times - 1, 0), two, three) + paths)
        rows.append((one, two, two * max(times - 1, 0) + three) + paths)
    rows += [(one, two[:-1], two[-1:] + three, path, other), (one + two[:1], two[1:], three, path, other)]
    for way in (path, other):
        for cut in range(len(way[1])):
            rows.append((one, two, three, (way[0], way[1][:cut] + way[1][cut + 1:]), other))
    return rows


class TestWild(Refusals, unittest.TestCase):
    def test_examples(self):
        self.assertEqual([is_fork(LAST, (0,), (2, 3), EXAMPLE), fork_delay(LAST, EXAMPLE, 3),
                          fork(SWAP, (0, 1, 2), (0, 1, 2)), wild_pairs(ADD)], [True, ('', 'aaa'), None, ((0, 1), (1, 0))])

    def check(self, rewriter):
        wild = wild_too(rewriter)
        self.assertEqual(wild_pairs(rewriter), tuple(sorted(wild)), (rewriter.starts, rewriter.edges))
        for p in rewriter.states:
            for q in rewriter.states:
                found = fork(rewriter, (p,), (q,))
                if (p, q) not in wild:
                    self.assertIs(found, None)
                else:
                    self.check_fork(rewriter, (p,), (q,), found)
        found = fork(rewriter, rewriter.states, rewriter.states)
        self.assertEqual(found is None, not wild)
        if wild:
            self.check_fork(rewriter, rewriter.states, rewriter.states, found)
        return wild

    def check_fork(self, rewriter, first, second, found):
        self.assertIs(type(found), tuple)
        self.assertTrue(is_paths_fork(rewriter, first, second, found))
        self.assertIs(is_fork(rewriter, first, second, found), True)

    def test_against_delays_that_are_followed(self):
        wild = single = many = 0
        for rewriter in (random_rewriters(80, 150, states=3, edges=7) + random_rewriters(81, 60, states=4, edges=8, most=1)
                         + random_singles(82, 60, states=4, most=2) + list(KNOWN) + [UNLIKE, LATER, CLASH, TURNED, KEPT, BEHIND]):
            pairs = self.check(rewriter)
            wild += bool(pairs)
            single += bool(pairs) and is_single(rewriter)
            delays = delays_too(rewriter, 300)
            many += any(1 < len(delays[pair]) < 300 for pair in delays)
        self.assertGreater(wild, 40)
        self.assertGreater(single, 10)
        self.assertGreater(many, 10)

    def test_two_delays_without_a_fork(self):
        self.assertEqual(len(delays_too(TURNS, 9)[(1, 2)]), 2)
        self.assertEqual(wild_pairs(TURNS), ())
        self.assertIs(fork(TURNS, (1,), (2,)), None)
        # Two delays of one number of letters, but nothing goes round where something is written.
        two = UNLIKE.without_edge((1, "c", "b", 1)).without_edge((2, "c", "b", 2))
        self.assertEqual(delays_too(two, 9)[(1, 2)], {("b", ""), ("c", "")})
        self.assertEqual(wild_pairs(two), ())

    def test_each_reason_for_a_fork(self):
        self.assertEqual(wild_pairs(UNLIKE), ((1, 2), (2, 1)))
        self.assertEqual(wild_pairs(CLASH), ((2, 3), (3, 2)))
        self.assertEqual(wild_pairs(TURNED), ((0, 1), (1, 0)))
        self.assertEqual(wild_pairs(KEPT), ())
        self.assertEqual([fork(UNLIKE, (1,), (2,))[0], fork(LATER, (1,), (2,))[0]], ["b", "a"])
        self.assertEqual(wild_pairs(LATER), wild_pairs(UNLIKE))
        self.assertEqual(wild_pairs(two_rings())[0], (0, 5))
        self.assertEqual(wild_pairs(EMPTY), ())
        self.assertEqual(wild_pairs(SAME), ())
        self.assertEqual(wild_pairs(CHOICE), ((0, 0),))

    def test_ahead_of_pairs_without_circles(self):
        self.assertEqual(wild_pairs(BEHIND), ((0, 1), (1, 0), (2, 3), (3, 2), (4, 5), (5, 4)))
        self.assertEqual(fork(BEHIND, (4,), (5,))[2], "ba")
        self.assertEqual(fork(BEHIND, (2, 4), (3,))[2], "b")
        self.assertIs(fork(BEHIND, (2,), (5,)), None)

    def test_many_circles_one_behind_the_other(self):
        # A pair that is wild only because of a pair far in front of it, past circles that keep delays.
        edges = [(0, "a", "x", 0), (1, "a", "", 1)]
        for at in range(0, 10, 2):
            edges += [(at, "b", "", at + 2), (at + 1, "b", "", at + 3), (at + 2, "c", "", at + 2), (at + 3, "c", "", at + 3)]
        rewriter = Rewriter("abc", {0: "", 1: ""}, tuple(edges), {10: "", 11: ""})
        self.assertEqual(wild_pairs(rewriter), tuple(sorted(pair for at in range(0, 12, 2) for pair in ((at, at + 1), (at + 1, at)))))
        self.assertEqual(fork(rewriter, (10,), (11,))[2].count("b"), 5)
        # Rows of letters of many lengths, but all circles keep what they meet.
        edges = [(at, "a", "", at) for at in range(11)] + [(at, "a", "x" * many, at + 1) for at in range(11) for many in (0, 1, 5, 8)]
        rewriter = Rewriter("ab", {0: ""}, tuple(edges) + ((11, "b", "x", 11),), {11: ""})
        self.assertEqual(wild_pairs(rewriter), ())

    def test_more_delays_than_can_be_followed_one_by_one(self):
        # 2 ** 11 words at the last state, all of eleven letters, and "ab" round and round behind them.
        edges = tuple((at, "a", word, at + 1) for at in range(11) for word in "ab")
        row = Rewriter("ab", {0: ""}, edges, {11: ""})
        self.assertEqual(wild_pairs(row), ())
        last = Rewriter("ab", {0: ""}, edges + ((11, "b", "c", 11),), {11: ""})
        self.assertEqual(wild_pairs(last), ((11, 11),))
        self.check_fork(last, (11,), (11,), fork(last, (11,), (11,)))
        self.assertEqual(fork(last, (11,), (11,))[2], "")


class TestIsFork(Refusals, unittest.TestCase):
    def test_changed_ones(self):
        right = wrong = 0
        some = random_rewriters(83, 150, states=3, edges=8) + random_singles(84, 60, states=4, most=2) + list(KNOWN)
        for rewriter in some + [UNLIKE, CLASH, TURNED, BEHIND, two_rings()]:
            found = fork(rewriter, rewriter.states, rewriter.states)
            if found is not None:
                for bent in bent_forks(found):
                    wanted = is_paths_fork(rewriter, rewriter.states, rewriter.states, bent)
                    self.assertIs(is_fork(rewriter, rewriter.states, rewriter.states, bent), wanted, bent)
                    right += wanted
                    wrong += not wanted
                    lasts = [edges[-1][3] if edges else state for state, edges in bent[3:]]
                    for first in ((), tuple(lasts[:1]), rewriter.states[1:]):
                        wanted_too = wanted and lasts[0] in first
                        self.assertIs(is_fork(rewriter, first, rewriter.states, bent), wanted_too)
                        self.assertIs(is_fork(rewriter, rewriter.states, first, bent), wanted and lasts[1] in first)
        self.assertGreater(right, 300)
        self.assertGreater(wrong, 1000)

    def test_kinds_of_values(self):
        one, two, three, path, other = EXAMPLE
        for wrong in (list(EXAMPLE), EXAMPLE[:4], EXAMPLE + ("",), (one, two, three, list(path), other), (one, two, three, path, [2, other[1]]),
                      (one, two, three, (0, list(path[1])), other), (one, two, three, (False, path[1]), other),
                      (one, two, three, (0, ((False, "a", "a", 0),)), other), (one, two, three, (0, ((0, "a", "a", False),)), other),
                      (one, two, three, (0, ([0, "a", "a", 0],)), other), ("", ("a",), "", path, other), ("", ["a"], "", path, other),
                      (None, two, three, path, other), (one, two, None, path, other), (one, two, "A", path, other), ((), two, three, path, other),
                      (one, two, three, other, path), (one, two, three, (2, path[1]), other), (one, two, three, (1, ()), other),
                      (one, "aa", three, path, other), (one, "", "a", path, other), ("a", "", "", path, other)):
            self.assertIs(is_fork(LAST, (0,), (2, 3), wrong), False, wrong)
        self.assertTrue(is_fork(LAST, (0, 1, 2, 3), (0, 1, 2, 3), (one, two, three, other, path)))
        for value in any_values():
            self.assertIs(is_fork(LAST, (0, 1, 2, 3), (0, 1, 2, 3), value), False)
            for at in range(5):
                bent = EXAMPLE[:at] + (value,) + EXAMPLE[at + 1:]
                self.assertIs(is_fork(LAST, (0,), (2, 3), bent), value == EXAMPLE[at] and type(value) is type(EXAMPLE[at])
                              and repr(value) == repr(EXAMPLE[at]), bent)

    def test_states_of_the_fork(self):
        for first, second, wanted in (((0,), (2,), True), ((0,), (3,), False), ((), (2,), False), ((0,), (), False),
                                      ((1, 2), (2,), False), ((0, 1), (0, 2), True), ((2,), (0,), False)):
            self.assertIs(is_fork(LAST, first, second, EXAMPLE), wanted)

    def test_words_of_starts_count_and_words_of_ends_do_not(self):
        kept = Rewriter("a", {0: "x", 1: ""}, ((0, "a", "x", 0), (1, "a", "x", 1)), {0: "", 1: "x"})
        self.assertEqual(wild_pairs(kept), ())
        value = ("", "a", "", (0, ((0, "a", "x", 0),)), (1, ((1, "a", "x", 1),)))
        self.assertFalse(is_fork(kept, (0,), (1,), value))
        started = Rewriter("a", {0: "y", 1: ""}, ((0, "a", "x", 0), (1, "a", "x", 1)), {0: "", 1: "y"})
        self.assertTrue(is_fork(started, (0,), (1,), value))
        self.assertEqual(fork_delay(started, value, 2), ("yxx", "xx"))

    def test_long_ones(self):
        many = 700
        trails = [(state, ((state, "a", word, state),) * many) for state, word in ((0, "a"), (2, "aa"))]
        value = ("a" * 300, "a" * 300, "a" * 100, trails[0], trails[1])
        self.assertTrue(is_fork(LAST, (0,), (2,), value))
        self.assertFalse(is_fork(LAST, (0,), (2,), ("a" * 300, "a" * 300, "a" * 99, trails[0], trails[1])))
        self.assertEqual(fork_delay(LAST, value, 60), ("", "a" * (300 + 60 * 300)))


class TestForkDelay(Refusals, unittest.TestCase):
    def test_against_what_the_paths_write(self):
        some = random_rewriters(85, 150, states=3, edges=8) + random_singles(86, 60, states=4, most=2) + [LAST, ADD, CHOICE, UNLIKE, CLASH]
        told = 0
        for rewriter in some:
            found = fork(rewriter, rewriter.states, rewriter.states)
            if found is None:
                continue
            one, two, three, path, other = found
            for many in (0, 1, 2, 7, 60):
                words = []
                for start, edges in (path, other):
                    at, then = len(one), len(one) + len(two)
                    rows = edges[:at] + edges[at:then] * many
                    words.append(rewriter.starts[start] + "".join(edge[2] for edge in rows))
                self.assertEqual(fork_delay(rewriter, found, many), left_over_too(*words))
                told += 1
            # Behind sixty rounds the delay is not near what it was.
            self.assertGreater(len("".join(fork_delay(rewriter, found, 60))), 40)
        self.assertGreater(told, 100)

    def test_no_forks(self):
        for value in any_values() + [EXAMPLE[:4], list(EXAMPLE), EXAMPLE[:3] + (EXAMPLE[3], EXAMPLE[3])]:
            self.refused(InvalidOperation, fork_delay, LAST, value, 0)
            self.refused(InvalidOperation, fork_delay, LAST, value, None)
            self.refused(InvalidOperation, fork_delay, SWAP, EXAMPLE, value)
            if not isinstance(value, Rewriter):
                self.refused(InvalidRewriter, fork_delay, value, None, None)

    def test_many(self):
        for value in any_values():
            right = is_whole(value) and 0 <= value <= 60
            self.same_as_told(None if right else (InvalidNumber, value), fork_delay, LAST, EXAMPLE, value)


class TestRefusals(Refusals, unittest.TestCase):
    def test_arguments_in_their_order(self):
        for value in any_values():
            if not isinstance(value, Rewriter):
                self.refused(InvalidRewriter, wild_pairs, value)
                self.refused(InvalidRewriter, fork, value, None, None)
                self.refused(InvalidRewriter, is_fork, value, None, None, None)
            right = (type(value) is tuple and all(is_whole(state) and state in (0, 1, 2, 3) for state in value)
                     and all(x < y for x, y in zip(value, value[1:])))
            for first, second in ((value, (0,)), ((0,), value), (value, value)):
                self.same_as_told(None if right else InvalidOperation, fork, LAST, first, second)
                self.same_as_told(None if right else InvalidOperation, is_fork, LAST, first, second, None)
        for states in ((0, 4), (1, 0), (0, 0), (False,), [0], {0: 1}, "0", (0, None)):
            self.refused(InvalidOperation, fork, LAST, states, (0,))
            self.refused(InvalidOperation, is_fork, LAST, (0,), states, EXAMPLE)

    def test_rewriters_with_two_results_are_taken(self):
        for rewriter in (CHOICE, TWICE):
            self.assertFalse(is_single(rewriter))
            found = fork(rewriter, rewriter.states, rewriter.states)
            self.assertTrue(is_fork(rewriter, rewriter.states, rewriter.states, found))
        self.assertEqual(set(wild_pairs(DROP)), wild_too(DROP))
        self.assertTrue(set(wild_pairs(LAST)) <= set(reached_steps_too(LAST)))


if __name__ == "__main__":
    unittest.main()
