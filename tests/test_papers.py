"""Papers of two rests: [0.13], [9.1], [9.2], [0.22], [0.23], and module fewmarks.rests.papers."""
import unittest

from fewmarks.base.results import result
from fewmarks.base.rewriters import Rewriter
from fewmarks.errors import InvalidNumber, InvalidOperation, InvalidRewriter, InvalidText, NotSingle, TooMany
from fewmarks.pairs.single import is_single, is_single_paper
from fewmarks.rests.forks import fork, is_fork
from fewmarks.rests.papers import are_alike, is_rest_paper, parted, rest_paper
from helpers import (ADD, CHOICE, DROP, EMPTY, LAST, SWAP, TURNS, TWICE, Refusals, all_texts, any_values, is_whole, many_sets,
                     random_rewriters, random_singles)
from second_ways import (are_alike_too, is_paths_fork, led_to_too, left_by_runs, left_over_too, loud_too, reached_steps_too,
                         result_too, wild_too)
from test_domains import is_right, row_of
from test_forks import EXAMPLE, KEPT


def keys_too(rewriter, rest, other):
    """The reached pairs that lead to a loud pair which leads to states from which both rests lead to ends."""
    steps = reached_steps_too(rewriter)
    goals = {(p, q) for p in left_by_runs(rewriter, rest) for q in left_by_runs(rewriter, other)}
    loud = {pair for pair in loud_too(rewriter) if led_to_too(steps, [pair]) & goals}
    return sorted(pair for pair in steps if led_to_too(steps, [pair]) & loud)


def is_table_too(rewriter, rest, other, table):
    """Whether a dict from pairs to tuples of delays is what [9.1] wants."""
    if sorted(table) != keys_too(rewriter, rest, other):
        return False
    steps = reached_steps_too(rewriter)
    for pair, delays in table.items():
        if list(delays) != sorted(set(delays)) or any(left_over_too(*delay) != delay for delay in delays):
            return False
        if pair[0] in rewriter.starts and pair[1] in rewriter.starts:
            if left_over_too(rewriter.starts[pair[0]], rewriter.starts[pair[1]]) not in delays:
                return False
        for _, one, two, after in steps[pair]:
            if after in table and any(left_over_too(x + one[2], y + two[2]) not in table[after] for x, y in delays):
                return False
    return True


def some_singles(seed):
    """Single rewriters, many of which have forks or tables."""
    drawn = [rewriter for rewriter in random_rewriters(seed, 90, states=3, edges=7) if is_single(rewriter)]
    return drawn + random_singles(seed + 1, 24, states=4, most=2) + random_singles(seed + 2, 10, states=4, most=1, gaps=0.0)


class TestPapers(Refusals, unittest.TestCase):
    def test_examples(self):
        self.assertEqual([are_alike(ADD, "", "bb"), are_alike(ADD, "b", "a"), are_alike(LAST, "", "a"), are_alike(SWAP, "", "a"),
                          rest_paper(SWAP, "", "a")[0]], [True, False, False, True, 'alike'])
        self.assertEqual([rest_paper(ADD, "", "a")[0], parted(LAST, "a", "b", ("apart", ("fork", EXAMPLE)), 2)],
                         ['apart', ('aa', 'aaa', 'aaaabb')])
        self.assertIs(is_rest_paper(TURNS, "a", "b", ("alike", (((), ()), ((0,), (0,)), ((1,), (2,))),
                                                      {(0, 0): (("", ""),), (1, 2): (("", "a"), ("a", ""))})), True)

    def check(self, rewriter, wild, rest, other):
        """The paper of two rests is right, whatever it says."""
        paper = rest_paper(rewriter, rest, other)
        first, second = left_by_runs(rewriter, rest), left_by_runs(rewriter, other)
        alike = are_alike_too(rewriter, wild, first, second)
        self.assertEqual(paper[0], "alike" if alike else "apart")
        self.assertIs(are_alike(rewriter, rest, other), alike)
        self.assertIs(is_rest_paper(rewriter, rest, other, paper), True)
        if alike:
            self.assertEqual(len(paper), 3)
            self.assertTrue(is_right(rewriter, rest, other, ("same", paper[1])))
            self.assertTrue(is_table_too(rewriter, rest, other, paper[2]))
            self.assertEqual(list(paper[2]), sorted(paper[2]))
            return "alike"
        self.assertEqual(len(paper), 2)
        kind, shown = paper[1]
        if kind == "text":
            self.assertTrue(is_right(rewriter, rest, other, paper[1]))
        else:
            self.assertEqual(kind, "fork")
            self.assertTrue(is_paths_fork(rewriter, first, second, shown))
        return kind

    def test_all_pairs_of_short_rests(self):
        kinds = []
        for rewriter in some_singles(90) + [LAST, ADD, SWAP, DROP, TURNS, EMPTY, KEPT]:
            wild = wild_too(rewriter)
            rests = all_texts(rewriter.letters, 3)[:8]
            told = {(rest, other): self.check(rewriter, wild, rest, other) for rest in rests for other in rests}
            for rest, other in told:
                self.assertEqual(told[(rest, other)] == "alike", told[(other, rest)] == "alike")
                if left_by_runs(rewriter, rest) == left_by_runs(rewriter, other):
                    self.assertEqual(told[(rest, other)], "alike")
            kinds += told.values()
        for kind in ("alike", "text", "fork"):
            self.assertGreater(kinds.count(kind), 50, kind)

    def test_distances_are_bounded_or_not(self):
        for rewriter in some_singles(93)[:60] + [LAST, ADD, SWAP, DROP, TURNS]:
            for rest, other in (("", "a"), ("a", "b"), ("b", "aa")):
                if not set(rest + other) <= set(rewriter.letters):
                    continue
                paper = rest_paper(rewriter, rest, other)
                if paper[0] == "apart" and paper[1][0] == "fork":
                    _, one, two = parted(rewriter, rest, other, paper, 60)
                    self.assertGreater(len("".join(left_over_too(one, two))), 30)
                if paper[0] == "alike":
                    for text in all_texts(rewriter.letters, 5):
                        one, two = result_too(rewriter, text + rest), result_too(rewriter, text + other)
                        self.assertEqual(one is None, two is None)
                        if one is not None:
                            self.assertLessEqual(len("".join(left_over_too(one, two))), 30)

    def test_two_delays_of_unlike_numbers_in_least_tables(self):
        self.assertEqual(rest_paper(TURNS, "a", "b"), ("alike", (((), ()), ((0,), (0,)), ((1,), (2,))),
                                                       {(0, 0): (("", ""),), (1, 2): (("", "a"), ("a", ""))}))
        for rewriter in some_singles(96):
            for rest in all_texts(rewriter.letters, 2)[:4]:
                paper = rest_paper(rewriter, rest, "")
                if paper[0] == "alike":
                    for delays in paper[2].values():
                        self.assertEqual(len({len(x) - len(y) for x, y in delays}), len(delays))

    def test_words_of_starts_are_in_tables(self):
        pairs, table = rest_paper(KEPT, "", "a")[1:]
        self.assertEqual(table, {(0, 0): (("", ""),), (0, 1): (("a", ""),), (1, 0): (("", "a"),), (1, 1): (("", ""),)})
        self.assertTrue(is_rest_paper(KEPT, "", "a", ("alike", pairs, table)))
        for pair in ((0, 1), (1, 0)):
            self.assertFalse(is_rest_paper(KEPT, "", "a", ("alike", pairs, {**table, pair: (("", ""),)})))

    def test_tables_of_a_rewriter_that_writes_nothing(self):
        for rewriter in (LAST.silent(), ADD.silent(), SWAP.silent()):
            self.assertEqual(rest_paper(rewriter, "", "ab")[2], {})
        self.assertEqual(rest_paper(EMPTY, "a", "b"), ("alike", (((), ()),), {}))

    def test_long_rests_and_long_texts(self):
        self.assertTrue(are_alike(LAST, "ab" * 30, "b"))
        self.assertFalse(are_alike(LAST, "ba" * 30, "b"))
        paper = rest_paper(LAST, "ba" * 30, "b" * 60)
        text, one, two = parted(LAST, "ba" * 30, "b" * 60, paper, 60)
        self.assertEqual((one, two), (text + "ba" * 30, "".join(2 * letter for letter in text + "b" * 60)))
        self.assertEqual(rest_paper(row_of(11), "a", "")[1][0], "text")


class TestIsPaper(Refusals, unittest.TestCase):
    def test_right_tables_with_more_delays(self):
        pairs = rest_paper(SWAP, "", "a")[1]
        least = rest_paper(SWAP, "", "a")[2]
        self.assertEqual(least, {(0, 0): (("", ""),), (1, 1): (("", ""),), (2, 2): (("", ""),)})
        more = {pair: (("", ""), ("", "a")) for pair in least}
        self.assertFalse(is_rest_paper(SWAP, "", "a", ("alike", pairs, more)))
        # A plain copy keeps a delay of one letter only if it reads that letter alone.
        plain = Rewriter.copying("a")
        for delays in ((("", ""),), (("", ""), ("", "a")), (("", ""), ("", "aa"), ("aaa", ""))):
            self.assertTrue(is_rest_paper(plain, "", "a", ("alike", (((0,), (0,)),), {(0, 0): delays})))
        for delays in ((), (("", "a"),), (("", ""), ("", "b")), (("", ""), ("a", "b")), (("", "a"), ("", "")), (("", ""), ("", "")),
                       [("", "")], (["", ""],), ((True, ""),), (("", "", ""),), (("a", "a"),), (("", ""), ("A", "")), "", None, {("", ""): 1},
                       (("", ""), ("a", "a")), (("", ""), None)):
            self.assertFalse(is_rest_paper(plain, "", "a", ("alike", (((0,), (0,)),), {(0, 0): delays})), delays)
        least = rest_paper(TURNS, "a", "b")
        wide = {(0, 0): (("", ""), ("", "a")), (1, 2): (("", "a"), ("", "aa"), ("a", ""))}
        self.assertFalse(is_rest_paper(TURNS, "a", "b", least[:2] + (wide,)))
        wide[(1, 2)] = (("", ""), ("", "a"), ("", "aa"), ("a", ""))
        self.assertTrue(is_rest_paper(TURNS, "a", "b", least[:2] + (wide,)))
        self.assertTrue(is_rest_paper(TURNS, "a", "b", least[:2] + ({pair: wide[pair] for pair in ((1, 2), (0, 0))},)))

    def test_bent_tables(self):
        tables = right = 0
        for rewriter in some_singles(100) + [ADD, SWAP, DROP, TURNS]:
            for rest in all_texts(rewriter.letters, 2)[:4]:
                for other in all_texts(rewriter.letters, 2)[:3]:
                    paper = rest_paper(rewriter, rest, other)
                    if paper[0] != "alike":
                        continue
                    table = paper[2]
                    bent = [{**table, pair: delays} for pair in table
                            for delays in (table[pair][1:], table[pair] + (("", "zz"),), table[pair] + table[pair][-1:], (), table[pair][::-1],
                                           tuple(sorted(table[pair] + (("ab", ""),))), (("", "q"),) + table[pair])]
                    bent += [{key: table[key] for key in table if key != pair} for pair in table]
                    bent += [{**table, pair: (("", ""),)} for pair in reached_steps_too(rewriter)]
                    bent += [{**table, (p, q): ()} for p in rewriter.states for q in rewriter.states]
                    for wrong in bent:
                        wanted = is_table_too(rewriter, rest, other, wrong)
                        self.assertIs(is_rest_paper(rewriter, rest, other, ("alike", paper[1], wrong)), wanted, wrong)
                        right += wanted
                    tables += bool(table)
                    self.assertTrue(is_rest_paper(rewriter, rest, other, ("alike", paper[1], dict(reversed(table.items())))))
                    for pairs in (paper[1][1:], paper[1][::-1] if len(paper[1]) > 1 else (), list(paper[1]), paper[1] * 2):
                        self.assertFalse(is_rest_paper(rewriter, rest, other, ("alike", pairs, table)))
                    for wrong in (list(paper), paper[:2], paper + ((),), ("apart", paper[1], table), ("apart", ("same", paper[1]))):
                        self.assertFalse(is_rest_paper(rewriter, rest, other, wrong))
        self.assertGreater(tables, 100)
        self.assertGreater(right, 100)

    def test_keys_of_other_kinds(self):
        pairs, table = rest_paper(ADD, "", "bb")[1:]
        self.assertEqual(table, {(0, 0): (("", ""),), (1, 1): (("", ""),)})
        for key in ((True, 1), (1, True), (True, True), (1, 1, 1), (1,), 1, "1", None, (1, 12)):
            self.assertFalse(is_rest_paper(ADD, "", "bb", ("alike", pairs, {(0, 0): (("", ""),), key: (("", ""),)})), key)
            self.assertFalse(is_rest_paper(ADD, "", "bb", ("alike", pairs, {**table, key: (("", ""),), (2, 2): (("", ""),)})), key)
        for wrong in ([table], tuple(table.items()), list(table), None, "", 0):
            self.assertFalse(is_rest_paper(ADD, "", "bb", ("alike", pairs, wrong)))

    def test_apart(self):
        for kind, shown, wanted in (("fork", EXAMPLE, True), ("fork", EXAMPLE[:3] + (EXAMPLE[4], EXAMPLE[3]), False), ("text", "", False),
                                    ("fork", list(EXAMPLE), False), ("text", EXAMPLE, False), ("same", EXAMPLE, False), (None, "", False)):
            self.assertIs(is_rest_paper(LAST, "a", "b", ("apart", (kind, shown))), wanted)
            for wrong in (("alike", (kind, shown)), ["apart", (kind, shown)], ("apart", [kind, shown]), ("apart", kind, shown),
                          ("apart", (kind, shown, shown)), (kind, shown)):
                self.assertIs(is_rest_paper(LAST, "a", "b", wrong), False)
        self.assertFalse(is_rest_paper(LAST, "b", "a", ("apart", ("fork", EXAMPLE))))
        row = row_of(2)
        for text in ("", "a", "aa", "aaa", "c", "ab", "b"):
            self.assertIs(is_rest_paper(row, "", "a", ("apart", ("text", text))), text in ("a", "aa"))
        rings = Rewriter("a", {0: ""}, tuple((at, "a", "", (at + 1) % 5) for at in range(5)), {0: ""})
        self.assertTrue(is_rest_paper(rings, "", "a", ("apart", ("text", "a" * 1005))))
        self.assertFalse(is_rest_paper(rings, "", "a", ("apart", ("text", "a" * 1006))))

    def test_any_value(self):
        for value in any_values():
            for paper in (value, ("apart", value), ("apart", ("text", value)), ("apart", ("fork", value)), ("alike", value, value),
                          ("alike", (((0, 3), (0, 1)),), value), ("alike", value, {})):
                self.assertIs(is_rest_paper(LAST, "", "a", paper), False, paper)
        pairs, table = rest_paper(SWAP, "", "a")[1:]
        for value in any_values():
            self.assertIs(is_rest_paper(SWAP, "", "a", ("alike", value, table)), False)
            self.assertIs(is_rest_paper(SWAP, "", "a", ("alike", pairs, value)), False)
            self.assertIs(is_rest_paper(SWAP, "", "a", ("alike", pairs, {**table, (0, 0): value})), False)


class TestParted(Refusals, unittest.TestCase):
    def test_texts_and_forks(self):
        forks = texts = 0
        for rewriter in some_singles(103) + [LAST, ADD]:
            for rest in all_texts(rewriter.letters, 2)[:4]:
                for other in all_texts(rewriter.letters, 2)[:4]:
                    paper = rest_paper(rewriter, rest, other)
                    if paper[0] == "alike":
                        self.refused(InvalidOperation, parted, rewriter, rest, other, paper, 0)
                        continue
                    for many in (0, 1, 2, 60):
                        text, one, two = parted(rewriter, rest, other, paper, many)
                        if paper[1][0] == "text":
                            self.assertEqual(text, paper[1][1])
                            self.assertNotEqual(one is None, two is None)
                            texts += 1
                        else:
                            begin, circle, end = paper[1][1][:3]
                            self.assertEqual(text, begin + circle * many + end)
                            self.assertTrue(one is not None and two is not None)
                            forks += 1
                        self.assertEqual([one, two], [result_too(rewriter, text + rest), result_too(rewriter, text + other)])
                        if len(text) < 50:
                            self.assertEqual([one, two], [result(rewriter, text + rest), result(rewriter, text + other)])
        self.assertGreater(forks, 60)
        self.assertGreater(texts, 60)

    def test_example(self):
        paper = ("apart", ("fork", EXAMPLE))
        self.assertEqual(parted(LAST, "a", "b", paper, 0), ("", "a", "bb"))
        self.assertEqual(parted(LAST, "a", "b", paper, 60), ("a" * 60, "a" * 61, "aa" * 60 + "bb"))
        self.assertEqual(parted(row_of(2), "", "a", ("apart", ("text", "a")), 5), ("a", None, ""))

    def test_no_papers(self):
        alike = rest_paper(LAST, "a", "ba")
        self.assertEqual(alike[0], "alike")
        for value in any_values() + [alike, EXAMPLE, ("fork", EXAMPLE), ("apart", ("text", "")), rest_paper(LAST, "b", "a"), rest_paper(LAST, "", "b")]:
            if not is_rest_paper(LAST, "a", "b", value):
                self.refused(InvalidOperation, parted, LAST, "a", "b", value, 0)
            self.refused(InvalidNumber, parted, LAST, "a", "b", value, 61)
        self.refused(InvalidOperation, parted, LAST, "a", "ba", alike, 0)
        self.refused(InvalidOperation, parted, LAST, "b", "a", ("apart", ("fork", EXAMPLE)), 0)

    def test_many(self):
        for value in any_values():
            right = is_whole(value) and 0 <= value <= 60
            self.same_as_told(None if right else (InvalidNumber, value), parted, LAST, "a", "b", ("apart", ("fork", EXAMPLE)), value)
            if not right:
                self.refused(InvalidNumber, parted, CHOICE, "a", "", None, value)


class TestRefusals(Refusals, unittest.TestCase):
    CALLS = ((are_alike, ()), (rest_paper, ()), (is_rest_paper, (None,)), (parted, (None, 0)))

    def test_rewriters_and_rests(self):
        for call, last in self.CALLS:
            for value in any_values():
                if not isinstance(value, Rewriter):
                    self.refused(InvalidRewriter, call, value, None, None, *last)
                wanted = None
                if not isinstance(value, str) or value.strip("abcdefghijklmnopqrstuvwxyz") or len(value) > 60:
                    wanted = InvalidText
                elif value.strip("ab"):
                    wanted = InvalidOperation
                self.same_as_told(wanted or InvalidText, call, LAST, value, None, *last)
                if wanted:
                    self.refused(wanted, call, LAST, value, "", *last)
                    self.refused(wanted, call, LAST, "", value, *last)
                    self.refused(wanted, call, TWICE, "", value, *last)
                elif call is not parted:
                    call(LAST, value, "", *last)

    def test_two_results_and_many_rest_sets(self):
        more = many_sets(more=True)
        both = Rewriter("abcd", more.starts, more.edges[:-1] + ((0, "d", "a", 0), more.edges[-1]), more.ends)
        self.assertFalse(is_single(both))
        exactly = many_sets()
        for call, last in self.CALLS:
            for rewriter in (CHOICE, TWICE, both):
                paper = self.refused(NotSingle, call, rewriter, "a", "", *last).paper
                self.assertTrue(is_single_paper(rewriter, paper))
                self.assertEqual(paper[0], "two")
                self.refused(InvalidText, call, rewriter, "a", None, *last)
            self.assertEqual(self.refused(TooMany, call, more, "a", "", *last).limit, 256)
            self.refused(InvalidOperation, call, more, "z", "", *last)
            if call is parted:
                self.refused(InvalidNumber, call, more, "a", "", None, -1)
                self.refused(InvalidOperation, call, exactly, "a", "", *last)
            else:
                call(exactly, "a", "", *last)
        self.assertTrue(are_alike(exactly, "", "d"))
        self.assertEqual(parted(exactly, "", "a", rest_paper(exactly, "", "a"), 3)[1:], ("", None))

    def test_forks_of_papers_are_forks(self):
        left, right = (0, 1), (2, 3)
        self.assertTrue(is_fork(LAST, left, right, rest_paper(LAST, "a", "b")[1][1]))
        self.assertTrue(is_rest_paper(LAST, "a", "b", ("apart", ("fork", fork(LAST, left, right)))))


if __name__ == "__main__":
    unittest.main()
