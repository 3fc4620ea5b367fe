"""One result or two: [5.1], [0.6], and module fewmarks.pairs.single."""
import unittest

from fewmarks.base.rewriters import Rewriter
from fewmarks.errors import InvalidRewriter
from fewmarks.pairs.pairs import live_pairs
from fewmarks.pairs.single import is_single, is_single_paper, single_paper
from helpers import (ADD, CHOICE, DROP, EMPTY, KNOWN, LAST, SAME, SWAP, TWICE, Refusals, all_results, all_texts, all_trails,
                     any_values, random_rewriters, random_singles, raw_of, trail_word)


def left_too(word, other):
    while word and other and word[0] == other[0]:
        word, other = word[1:], other[1:]
    return word, other


def are_delays_too(rewriter, delays):
    """Whether the delays keep what [5.1] wants, edge by edge."""
    if list(delays) != list(live_pairs(rewriter)):
        return False
    rows = [delays[(p, q)] == left_too(rewriter.starts[p], rewriter.starts[q])
            for p, q in delays if p in rewriter.starts and q in rewriter.starts]
    rows += [left_too(delays[(p, q)][0] + one[2], delays[(p, q)][1] + two[2]) == delays[(one[3], two[3])]
             for p, q in delays for one in rewriter.edges for two in rewriter.edges
             if one[0] == p and two[0] == q and one[1] == two[1] and (one[3], two[3]) in delays]
    rows += [left_too(delays[(p, q)][0] + rewriter.ends[p], delays[(p, q)][1] + rewriter.ends[q]) == ("", "")
             for p, q in delays if p in rewriter.ends and q in rewriter.ends]
    return all(rows)


def are_two_too(rewriter, text, path, other):
    """Whether both are complete paths that read the text and write unlike words."""
    for start, edges in (path, other):
        state = start
        if start not in rewriter.starts or "".join(edge[1] for edge in edges) != text:
            return False
        for edge in edges:
            if edge not in rewriter.edges or edge[0] != state:
                return False
            state = edge[3]
        if state not in rewriter.ends:
            return False
    return trail_word(raw_of(rewriter), path) != trail_word(raw_of(rewriter), other)


class TestSingle(Refusals, unittest.TestCase):
    def test_examples(self):
        self.assertEqual([is_single(LAST), single_paper(ADD), is_single_paper(ADD, ("single", {(0, 0): ("", "")}))],
                         [True, ('single', {(0, 0): ('', ''), (1, 1): ('', '')}), False])
        twice = LAST.with_edge((0, "b", "a", 1)) | Rewriter.copying("ab")
        self.assertEqual([is_single(twice), single_paper(twice)[0], is_single(LAST | LAST)], [False, 'two', True])

    def check(self, rewriter):
        """The paper is right, whatever it says."""
        paper = single_paper(rewriter)
        self.assertIs(is_single_paper(rewriter, paper), True)
        self.assertIs(is_single(rewriter), paper[0] == "single")
        if paper[0] == "single":
            self.assertEqual(len(paper), 2)
            self.assertTrue(are_delays_too(rewriter, paper[1]))
        else:
            self.assertEqual((paper[0], len(paper)), ("two", 4))
            self.assertTrue(are_two_too(rewriter, *paper[1:]))
        return paper

    def test_papers_and_results(self):
        kinds = {"single": 0, "two": 0}
        for rewriter in random_rewriters(50, 1500) + random_rewriters(51, 400, states=3, edges=6, most=1) + list(KNOWN):
            paper = self.check(rewriter)
            kinds[paper[0]] += len(rewriter) > 2
            two = any(len(all_results(raw_of(rewriter), text)) > 1 for text in all_texts(rewriter.letters, 3))
            self.assertFalse(two and paper[0] == "single")
        self.assertGreater(min(kinds.values()), 60)

    def test_rewriters_with_one_result(self):
        for rewriter in random_singles(52, 100) + random_singles(53, 60, states=7):
            self.assertEqual(self.check(rewriter)[0], "single")
            self.assertEqual(self.check(rewriter | rewriter)[0] if len(rewriter.states) < 7 else "single", "single")

    def test_delays_of_just_the_live_pairs(self):
        for rewriter in (LAST, ADD, SWAP, DROP, SAME, EMPTY, LAST | LAST):
            self.assertEqual(tuple(single_paper(rewriter)[1]), live_pairs(rewriter))
        self.assertEqual(single_paper(EMPTY), ("single", {}))

    def test_paths_that_part_for_long_and_those_that_come_back(self):
        # Both ways write six letters x; one of them writes all of them at the end.
        late = tuple((at, "a", "x", at + 1) for at in range(5)) + ((5, "a", "x", 11),)
        early = ((0, "a", "", 6),) + tuple((at, "a", "", at + 1) for at in range(6, 10)) + ((10, "a", "x" * 6, 11),)
        back = Rewriter("a", {0: ""}, late + early, {11: ""})
        self.assertEqual(self.check(back)[0], "single")
        self.assertEqual(single_paper(back)[1][(3, 8)], ("xxx", ""))
        for word in ("x" * 5, "x" * 7, "x" * 5 + "y", "y" + "x" * 5):
            bent = Rewriter("a", {0: ""}, late + early[:-1] + ((10, "a", word, 11),), {11: ""})
            self.assertEqual(self.check(bent)[:2], ("two", "a" * 6))

    def test_circles_on_which_the_delay_grows(self):
        grows = Rewriter("ab", {0: "", 1: ""}, ((0, "a", "x", 0), (1, "a", "xx", 1), (0, "b", "", 2), (1, "b", "", 2)), {2: ""})
        self.assertEqual(self.check(grows)[0], "two")
        even = Rewriter("ab", {0: "", 1: "x"}, ((0, "a", "xy", 0), (1, "a", "yx", 1), (0, "b", "x", 2), (1, "b", "", 2)), {2: ""})
        self.assertEqual(self.check(even)[0], "single")
        self.assertEqual(single_paper(even)[1][(0, 1)], ("", "x"))
        # The delay grows from pair to pair that are not live: that does no harm.
        self.assertEqual(self.check(LAST)[0], "single")

    def test_two_words_at_the_start_or_at_the_end(self):
        self.assertEqual(self.check(Rewriter("a", {0: "", 1: "x"}, (), {0: "", 1: ""})), ("two", "", (0, ()), (1, ())))
        self.assertEqual(self.check(Rewriter("a", {0: "", 1: "x"}, (), {0: "x", 1: ""}))[0], "single")
        self.assertEqual(self.check(CHOICE)[:2], ("two", "a"))

    def test_text_with_two_results_is_long(self):
        rings = Rewriter("a", {0: "", 5: ""}, tuple((at, "a", "", (at + 1) % 5) for at in range(5))
                         + tuple((5 + at, "a", "", 5 + (at + 1) % 7) for at in range(7)), {4: "x", 11: "y"})
        text = self.check(rings)[1]
        self.assertEqual((len(text) % 5, len(text) % 7), (4, 6))


class TestPapers(Refusals, unittest.TestCase):
    def test_single_papers_of_a_foreign_hand(self):
        for rewriter in random_singles(54, 40) + [LAST, ADD, SWAP, DROP, EMPTY]:
            delays = single_paper(rewriter)[1]
            foreign = ("single", {pair: delays[pair] for pair in reversed(delays)})
            self.assertIs(is_single_paper(rewriter, foreign), True)

    def test_bent_single_papers(self):
        for rewriter in random_singles(55, 25, states=4) + [LAST, ADD, SWAP, DROP]:
            delays = single_paper(rewriter)[1]
            for value in (["single", delays], ("single", list(delays.items())), ("single",), ("single", delays, ()), ("Single", delays),
                          ("two", delays), delays, ("single", tuple(delays.items())), (delays, "single"), ("single", None)):
                self.assertIs(is_single_paper(rewriter, value), False)
            for pair in delays:
                self.assertIs(is_single_paper(rewriter, ("single", {key: delays[key] for key in delays if key != pair})), False)
                word, other = delays[pair]
                bent = [(other, word), (word + "a", other), (word, other + "a"), [word, other], (word, other, ""), (word,), None, "",
                        ("c" + word, "c" + other), (word, None), (word.upper() + "A", other), (("",), other), 0, LAST]
                for value in bent:
                    if value != (word, other):
                        self.assertIs(is_single_paper(rewriter, ("single", {**delays, pair: value})), False)
                for key in (list(pair) and (bool(pair[0]), pair[1]), (pair[0], bool(pair[1])), str(pair), pair + (0,), pair[:1], (pair,), None, 0):
                    other_keys = {key: delays[pair], **{at: delays[at] for at in delays if at != pair}}
                    self.assertIs(is_single_paper(rewriter, ("single", other_keys)), False)
                    self.assertIs(is_single_paper(rewriter, ("single", {**delays, (0, "a"): ("", "")})), False)
            for pair in [(p, q) for p in range(12) for q in range(12) if (p, q) not in delays]:
                self.assertIs(is_single_paper(rewriter, ("single", {**delays, pair: ("", "")})), False)

    def test_true_beside_one(self):
        good = {(0, 0): ("", ""), (1, 1): ("", "")}
        self.assertIs(is_single_paper(ADD, ("single", good)), True)
        for keys in (((0, 0), (True, 1)), ((0, 0), (1, True)), ((False, 0), (1, 1)), ((False, False), (True, True))):
            self.assertIs(is_single_paper(ADD, ("single", {key: ("", "") for key in keys})), False)

    def test_no_delays_that_only_agree_with_one_another(self):
        """Each condition alone is looked at: starts, steps and ends."""
        lone = Rewriter("a", {0: "", 1: "x"}, ((0, "a", "x", 0), (1, "a", "x", 1)), {0: "x", 1: ""})
        good = single_paper(lone)[1]
        self.assertEqual(good, {(0, 0): ("", ""), (0, 1): ("", "x"), (1, 0): ("x", ""), (1, 1): ("", "")})
        self.assertIs(is_single_paper(lone, ("single", {**good, (0, 1): ("", "xx")})), False)
        self.assertIs(is_single_paper(CHOICE, ("single", {(0, 0): ("", "")})), False)
        ends = Rewriter("a", {0: "", 1: ""}, (), {0: "x", 1: ""})
        self.assertIs(is_single_paper(ends, ("single", {(p, q): ("", "") for p in (0, 1) for q in (0, 1)})), False)
        starts = Rewriter("a", {0: "", 1: "x"}, (), {0: "", 1: ""})
        self.assertIs(is_single_paper(starts, ("single", {(p, q): ("", "") for p in (0, 1) for q in (0, 1)})), False)
        steps = Rewriter("ab", {0: "", 1: ""}, ((0, "a", "x", 0), (1, "a", "", 1), (0, "b", "", 0)), {0: "", 1: ""})
        self.assertIs(is_single_paper(steps, ("single", {(p, q): ("", "") for p in (0, 1) for q in (0, 1)})), False)

    def test_papers_of_two(self):
        for rewriter in (CHOICE, TWICE) + tuple(random_rewriters(56, 60)):
            raw = raw_of(rewriter)
            for text in all_texts(rewriter.letters, 2):
                trails = all_trails(raw, text)
                for path in trails[:6]:
                    for other in trails[:6]:
                        right = trail_word(raw, path) != trail_word(raw, other)
                        self.assertIs(is_single_paper(rewriter, ("two", text, path, other)), right)
                        for value in (("two", text + "a", path, other), ("two", text, path), ("two", text, path, other, other),
                                      ["two", text, path, other], ("single", text, path, other), ("two", text, list(path), other),
                                      ("two", text, path, (other[0], list(other[1]))), ("two", None, path, other), ("two", text, path, None),
                                      ("two", (text,), path, other), ("two", text, path, (bool(other[0]), other[1])),
                                      ("two", text, (path[0] + 20, path[1]), other), (text, "two", path, other)):
                            self.assertIs(is_single_paper(rewriter, value), False)

    def test_paths_that_are_not_complete_or_read_other_texts(self):
        open_end = Rewriter("ab", {0: ""}, ((0, "a", "x", 0), (0, "a", "y", 1), (1, "b", "", 0)), {0: ""})
        one, two = (0, ((0, "a", "x", 0),)), (0, ((0, "a", "y", 1),))
        self.assertIs(is_single_paper(open_end, ("two", "a", one, two)), False)
        closed = (0, two[1] + ((1, "b", "", 0),))
        self.assertIs(is_single_paper(open_end, ("two", "ab", closed, one)), False)
        self.assertIs(is_single_paper(open_end, ("two", "a", one, closed)), False)

    def test_long_papers(self):
        one, two = (0, ((0, "a", "a", 0),) * 2000), (0, ((0, "a", "a", 0),) * 1999 + ((0, "a", "b", 0),))
        self.assertIs(is_single_paper(CHOICE, ("two", "a" * 2000, one, two)), True)
        self.assertIs(is_single_paper(CHOICE, ("two", "a" * 2001, one, two)), False)
        self.assertIs(is_single_paper(CHOICE, ("two", "a" * 2000, one, one)), False)

    def test_any_values(self):
        for rewriter in KNOWN:
            for value in any_values():
                right = value == single_paper(rewriter) and type(value) is tuple
                self.assertIs(is_single_paper(rewriter, value), right)
                self.assertIs(is_single_paper(rewriter, ("single", value)), type(value) is dict and value == single_paper(rewriter)[1])
                self.assertIs(is_single_paper(rewriter, ("two", value, value, value)), False)

    def test_no_rewriters(self):
        for value in any_values():
            if not isinstance(value, Rewriter):
                self.refused(InvalidRewriter, is_single, value)
                self.refused(InvalidRewriter, single_paper, value)
                self.refused(InvalidRewriter, is_single_paper, value, ("single", {}))


if __name__ == "__main__":
    unittest.main()
