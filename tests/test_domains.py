"""Domains of rests: [7.1], [0.22], [0.23], and module fewmarks.rests.domains."""
import unittest

from fewmarks.base.rewriters import Rewriter
from fewmarks.errors import InvalidOperation, InvalidRewriter, InvalidText, TooMany
from fewmarks.rests.domains import domain_paper, have_same_domain, is_domain_paper
from helpers import (ADD, CHOICE, DROP, EMPTY, KNOWN, LAST, SWAP, TWICE, Refusals, all_texts, any_values, many_sets,
                     random_rewriters)
from second_ways import has_result_too, left_by_runs, parting_texts, sources_too


def is_right(rewriter, rest, other, paper):
    """Whether a paper of right kinds of values is right, told as [7.1] tells it."""
    kind, shown = paper
    if kind == "text":
        return has_result_too(rewriter, shown + rest) != has_result_too(rewriter, shown + other)
    good = (left_by_runs(rewriter, rest), left_by_runs(rewriter, other)) in shown
    for first, second in shown:
        good = good and bool(set(first) & set(rewriter.starts)) == bool(set(second) & set(rewriter.starts))
        for letter in rewriter.letters:
            good = good and (sources_too(rewriter, first, letter), sources_too(rewriter, second, letter)) in shown
    return good and list(shown) == sorted(set(shown))


def row_of(many):
    """A rewriter that has a result for just the text of so many letters."""
    return Rewriter("ab", {0: ""}, tuple((at, "a", "", at + 1) for at in range(many)), {many: ""})


class TestDomains(Refusals, unittest.TestCase):
    def test_examples(self):
        self.assertEqual([is_domain_paper(ADD, "", "a", ("same", (((0,), (0,)), ((1,), (0,))))),
                          is_domain_paper(LAST, "", "a", ("same", (((0, 3), (0, 1)),)))], [True, False])

    def check(self, rewriter, rest, other):
        parting = parting_texts(rewriter, left_by_runs(rewriter, rest), left_by_runs(rewriter, other))
        paper = domain_paper(rewriter, rest, other)
        self.assertEqual(paper[0], "text" if parting else "same")
        self.assertEqual(len(paper), 2)
        self.assertTrue(is_right(rewriter, rest, other, paper))
        self.assertIs(is_domain_paper(rewriter, rest, other, paper), True)
        self.assertIs(have_same_domain(rewriter, rest, other), not parting)
        wrong = ("same", paper[1]) if parting else ("text", paper[1])
        self.assertIs(is_domain_paper(rewriter, rest, other, wrong), False)
        return paper[0]

    def test_papers_against_texts_from_the_left(self):
        kinds = []
        for rewriter in random_rewriters(70, 120) + list(KNOWN):
            rests = all_texts(rewriter.letters, 3)[:9]
            kinds += [self.check(rewriter, rest, other) for rest in rests for other in rests[:5]]
        self.assertGreater(kinds.count("text"), 500)
        self.assertGreater(kinds.count("same"), 500)

    def test_each_text_one_by_one(self):
        for rewriter in random_rewriters(71, 40, states=3) + [LAST, ADD, DROP, CHOICE]:
            texts = all_texts(rewriter.letters, 5)
            for rest, other in (("", texts[1]), (texts[1], texts[2]), (texts[-1], "")):
                unlike = [text for text in texts
                          if has_result_too(rewriter, text + rest) != has_result_too(rewriter, text + other)]
                if have_same_domain(rewriter, rest, other):
                    self.assertEqual(unlike, [])
                for text in texts:
                    self.assertIs(is_domain_paper(rewriter, rest, other, ("text", text)), text in unlike)

    def test_without_states(self):
        self.assertEqual(domain_paper(EMPTY, "", "ab"), ("same", (((), ()),)))
        self.assertTrue(is_domain_paper(EMPTY, "b", "a", ("same", (((), ()),))))
        self.assertFalse(is_domain_paper(EMPTY, "b", "a", ("same", ())))
        self.assertFalse(is_domain_paper(EMPTY, "b", "a", ("text", "")))

    def test_a_text_of_many_letters(self):
        for many in range(1, 12):
            rewriter = row_of(many)
            paper = domain_paper(rewriter, "a", "")
            self.assertEqual(paper[0], "text")
            self.assertIn(len(paper[1]), (many, many - 1))
            self.assertTrue(is_domain_paper(rewriter, "a", "", paper))
            self.assertTrue(have_same_domain(rewriter, "b", "ab"))
            self.assertTrue(have_same_domain(rewriter, "a" * (many + 1), "b"))
            self.assertEqual([text for text in all_texts("a", 12) if is_domain_paper(rewriter, "a", "", ("text", text))],
                             ["a" * (many - 1), "a" * many])

    def test_rewriters_with_two_results_are_taken(self):
        self.assertEqual(domain_paper(CHOICE, "", "aa"), ("same", (((0,), (0,)),)))
        self.assertTrue(have_same_domain(TWICE, "a", "b"))

    def test_long_rests(self):
        self.assertTrue(have_same_domain(LAST, "a" * 60, "b" * 60))
        self.assertTrue(have_same_domain(DROP, "a" * 60, ""))
        self.assertFalse(have_same_domain(row_of(11), "a" * 60, ""))
        self.assertEqual(domain_paper(row_of(11), "a" * 60, "")[0], "text")


class TestIsPaper(Refusals, unittest.TestCase):
    def test_further_pairs(self):
        closed = (((0,), (0,)), ((1,), (0,)))
        for more in (((0, 1), (0, 1)), ((0, 1), (0,)), ((0, 1), (1,)), ((1,), (1,)), ((0,), (1,))):
            # Letters ahead lead from all of these to (0,) on both sides.
            self.assertTrue(is_domain_paper(ADD, "", "a", ("same", tuple(sorted(closed + (more,))))), more)
        self.assertTrue(is_domain_paper(ADD, "", "a", ("same", tuple(sorted(closed + (((), ()),))))))
        for more in (((), (0,)), ((0,), ()), ((1,), ())):
            self.assertFalse(is_domain_paper(ADD, "", "a", ("same", tuple(sorted(closed + (more,))))), more)
        # Further pairs bring what letters lead to.
        pairs = (((), ()), ((0,), (0,)), ((0, 1, 2), (0, 1, 2)))
        self.assertTrue(is_domain_paper(SWAP, "", "a", ("same", (((0, 1, 2), (0, 1, 2)),))))
        self.assertFalse(is_domain_paper(SWAP, "", "a", ("same", pairs)))
        more = (((), ()), ((0,), (0,)), ((0, 1, 2), (0, 1, 2)), ((1, 2), (1, 2)))
        self.assertTrue(is_domain_paper(SWAP, "", "a", ("same", more)))
        self.assertFalse(is_domain_paper(SWAP, "", "a", ("same", more[:2] + more[3:])))

    def test_pairs_left_out_or_out_of_order_or_bent(self):
        for rewriter in random_rewriters(72, 80) + [LAST, ADD, SWAP, DROP]:
            rests = all_texts(rewriter.letters, 2)[:4]
            for rest in rests:
                for other in rests:
                    kind, pairs = domain_paper(rewriter, rest, other)
                    if kind == "text":
                        continue
                    bent = [pairs[:at] + pairs[at + 1:] for at in range(len(pairs))]
                    bent += [pairs + pairs[:1], pairs[::-1] if len(pairs) > 1 else (), list(pairs), (list(pairs[0]),) + pairs[1:]]
                    bent += [(pairs[0] + ((),),) + pairs[1:], (pairs[0][:1],) + pairs[1:], (([], []),) + pairs, {pairs: 1}, None]
                    bent += [pairs[:at] + ((pairs[at][0], list(pairs[at][1])),) + pairs[at + 1:] for at in range(len(pairs))]
                    bent += [tuple(sorted(pairs + (((99,), ()),))), tuple(sorted(pairs + (((), (-1,)),)))]
                    for wrong in bent:
                        self.assertIs(is_domain_paper(rewriter, rest, other, ("same", wrong)), False, wrong)
                    self.assertFalse(is_domain_paper(rewriter, rest, other, ["same", pairs]))
                    self.assertFalse(is_domain_paper(rewriter, rest, other, ("same", pairs, ())))

    def test_sets_that_are_not_ascending_or_not_of_integers(self):
        pairs = domain_paper(SWAP, "", "a")[1]
        self.assertEqual(pairs, (((0, 1, 2), (0, 1, 2)),))
        for states in ((0, 2, 1), (0, 1, 1, 2), (0, True, 2), (False, 1, 2), [0, 1, 2], (0, 1, 2, 3), "012", 7, None):
            self.assertFalse(is_domain_paper(SWAP, "", "a", ("same", (((0, 1, 2), states),))))
            self.assertFalse(is_domain_paper(SWAP, "", "a", ("same", ((states, (0, 1, 2)),))))
            self.assertFalse(is_domain_paper(SWAP, "", "a", ("same", (((0, 1, 2), (0, 1, 2)), ((0, 1, 2), states)))))
        self.assertTrue(is_domain_paper(ADD, "", "a", ("same", (((0,), (0,)), ((1,), (0,))))))
        self.assertFalse(is_domain_paper(ADD, "", "a", ("same", (((0,), (0,)), ((True,), (0,))))))
        self.assertFalse(is_domain_paper(ADD, "", "a", ("same", (((False,), (0,)), ((1,), (0,))))))

    def test_texts(self):
        one = row_of(1)
        for text in ("", "a", "c", "ac", "ca", "b", "aa"):
            # Neither rest has a result behind a letter that is none of the rewriter.
            self.assertIs(is_domain_paper(one, "", "a", ("text", text)), text in ("", "a"))
        self.assertTrue(is_domain_paper(row_of(3), "", "a", ("text", "aaa")))
        for kind in ("same", "apart", "", None, 0, True, (), "Text"):
            self.assertFalse(is_domain_paper(row_of(3), "", "a", (kind, "aaa")))
        rings = Rewriter("a", {0: ""}, tuple((at, "a", "", (at + 1) % 5) for at in range(5)), {0: ""})
        for text in ("a" * 65, "a" * 1000, "a" * 64, "a" * 999):
            self.assertTrue(is_domain_paper(rings, "", "a", ("text", text)))
        for text in ("a" * 66, "a" * 997, "a" * 65 + "z", "a" * 65 + " ", "A", None, 0, True, (), ("",), [""]):
            self.assertFalse(is_domain_paper(rings, "", "a", ("text", text)), text)

    def test_any_value(self):
        for rewriter in (LAST, ADD, CHOICE, EMPTY):
            for value in any_values():
                self.assertIs(is_domain_paper(rewriter, "a", "", value), False)
                self.assertIs(is_domain_paper(rewriter, "a", "", ("same", value)), False)
                self.assertIs(is_domain_paper(rewriter, "a", "", ("same", (value,))), rewriter is EMPTY and value == ((), ()))
                alone = () if rewriter is EMPTY else (0,) if rewriter is CHOICE else "none"
                self.assertIs(is_domain_paper(rewriter, "a", "", ("same", ((value, value),))), value == alone)
                self.assertIs(is_domain_paper(rewriter, "a", "", ("text", value)), False)


class TestRefusals(Refusals, unittest.TestCase):
    def test_arguments_in_their_order(self):
        for call, last in ((have_same_domain, ()), (domain_paper, ()), (is_domain_paper, (None,))):
            for value in any_values():
                if not isinstance(value, Rewriter):
                    self.refused(InvalidRewriter, call, value, None, None, *last)
                wanted = None
                if not isinstance(value, str) or value.strip("abcdefghijklmnopqrstuvwxyz") or len(value) > 60:
                    wanted = InvalidText
                elif value.strip("ab"):
                    wanted = InvalidOperation
                self.same_as_told(wanted, call, LAST, value, "", *last)
                self.same_as_told(wanted, call, LAST, "", value, *last)
                self.same_as_told(wanted or InvalidText, call, LAST, value, None, *last)
            self.refused(InvalidOperation, call, LAST, "c", "A", *last)
            self.refused(InvalidText, call, LAST, "c" * 61, "c", *last)

    def test_256_and_257_rest_sets(self):
        exactly, more = many_sets(), many_sets(more=True)
        self.assertTrue(have_same_domain(exactly, "d", ""))
        self.assertEqual(domain_paper(exactly, "", "a")[0], "text")
        for call, last in ((have_same_domain, ()), (domain_paper, ()), (is_domain_paper, (None,))):
            self.assertEqual(self.refused(TooMany, call, more, "a", "b", *last).limit, 256)
            self.refused(InvalidText, call, more, "a", None, *last)
            self.refused(InvalidOperation, call, more, "z", "a", *last)


if __name__ == "__main__":
    unittest.main()
