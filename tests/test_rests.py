"""Rests: [0.13], [0.22], [0.23], and module fewmarks.rests.rests."""
import itertools
import unittest

from fewmarks.base.rewriters import Rewriter
from fewmarks.errors import InvalidOperation, InvalidRewriter, InvalidText, NotSingle, TooMany
from fewmarks.pairs.single import is_single, is_single_paper
from fewmarks.rests.rests import first_rest, left, rest_sets, words_ahead
from helpers import (ADD, CHOICE, DROP, EMPTY, KNOWN, LAST, SWAP, TWICE, Refusals, all_texts, any_values,
                     is_string_of_letters, is_whole, many_sets, random_rewriters, random_singles)


def ways_on(rewriter, state, rest):
    """All words that a rest writes from a state to an end, end words included."""
    rows = [(state, "")]
    for letter in rest:
        rows = [(edge[3], word + edge[2]) for at, word in rows for edge in rewriter.edges if edge[:2] == (at, letter)]
    return {word + rewriter.ends[at] for at, word in rows if at in rewriter.ends}


def left_too(rewriter, rest):
    return tuple(state for state in rewriter.states if ways_on(rewriter, state, rest))


def sets_too(rewriter):
    """The rest sets as they are met, with the rests by which they are met."""
    rows, rests = [left_too(rewriter, "")], [""]
    for row, rest in zip(rows, rests):
        for letter in rewriter.letters:
            onward = rewriter.sources(row, letter)
            if onward not in rows:
                rows.append(onward)
                rests.append(letter + rest)
    return rows, rests


class TestLeft(Refusals, unittest.TestCase):
    def test_examples(self):
        self.assertEqual([left(LAST, ""), left(LAST, "a"), left(LAST, "ab"), words_ahead(ADD, "bb"), rest_sets(LAST)],
                         [(0, 3), (0, 1), (2, 3), {1: 'aa'}, ((0, 3), (0, 1), (2, 3))])
        self.assertEqual([rest_sets(ADD), first_rest(ADD, (0,)), first_rest(ADD, (0, 1)), rest_sets(SWAP)],
                         [((1,), (0,)), 'a', None, ((0, 1, 2),)])

    def test_left_against_all_ways(self):
        for rewriter in random_rewriters(60, 200) + list(KNOWN):
            for rest in all_texts(rewriter.letters, 3):
                self.assertEqual(left(rewriter, rest), left_too(rewriter, rest))

    def test_words_ahead_against_all_ways(self):
        some = [rewriter for rewriter in random_rewriters(61, 400) if is_single(rewriter)] + random_singles(62, 60)
        for rewriter in some + [LAST, ADD, SWAP, DROP, EMPTY]:
            for rest in all_texts(rewriter.letters, 3):
                wanted = {state: ways_on(rewriter, state, rest) for state in left_too(rewriter, rest)}
                ahead = words_ahead(rewriter, rest)
                self.assertEqual({state: {word} for state, word in ahead.items()}, wanted)
                self.assertEqual(tuple(ahead), left(rewriter, rest))

    def test_long_rests(self):
        self.assertEqual(left(LAST, "a" * 59 + "b"), (2, 3))
        self.assertEqual(words_ahead(LAST, "a" * 59 + "b"), {2: "aa" * 59 + "bb", 3: "aa" * 59 + "bb"})
        self.assertEqual(words_ahead(SWAP, "ab" * 30)[0], "ba" * 30)
        self.assertEqual(words_ahead(SWAP, "aab"), {0: "aab", 1: "aaba", 2: "abba"})
        self.assertEqual(words_ahead(DROP, "a" * 60), {0: "a" * 59})
        self.assertEqual(words_ahead(DROP, ""), {1: "", 2: ""})

    def test_letters_that_no_edge_reads(self):
        gaps = Rewriter("abc", {0: ""}, ((0, "a", "", 0), (0, "b", "x", 1)), {0: "", 1: "z"})
        self.assertEqual([left(gaps, rest) for rest in ("", "c", "ac", "b", "ba", "ca")], [(0, 1), (), (), (0,), (), ()])
        self.assertEqual([words_ahead(gaps, rest) for rest in ("b", "c", "")], [{0: "xz"}, {}, {0: "", 1: "z"}])
        self.assertEqual(rest_sets(gaps), ((0, 1), (0,), ()))
        self.assertEqual([first_rest(gaps, ()), first_rest(gaps, (1,))], ["c", None])

    def test_nothing_is_left(self):
        self.assertEqual([left(EMPTY, "ab"), words_ahead(EMPTY, "ab"), rest_sets(EMPTY), first_rest(EMPTY, ())], [(), {}, ((),), ""])

    def test_what_is_handed_out_is_a_copy(self):
        ahead = words_ahead(ADD, "")
        ahead[0] = "q"
        self.assertEqual(words_ahead(ADD, ""), {1: ""})
        self.assertEqual(ADD.ends, {1: ""})


class TestSets(Refusals, unittest.TestCase):
    def test_order_and_first_rests(self):
        later = 0
        for rewriter in random_rewriters(63, 250, states=5, edges=12) + list(KNOWN):
            rows, rests = sets_too(rewriter)
            self.assertEqual(rest_sets(rewriter), tuple(rows))
            for row, rest in zip(rows, rests):
                first = first_rest(rewriter, row)
                self.assertEqual(left_too(rewriter, first), row)
                self.assertEqual(len(first), len(rest))
                self.assertLessEqual(first, rest)
                later += first != rest
        self.assertGreater(later, 5)

    def test_first_rests_against_all_rests(self):
        for rewriter in random_rewriters(64, 120, states=4, edges=10, letters="ab") + [LAST, ADD, SWAP, DROP, TWICE]:
            firsts = {}
            for rest in all_texts(rewriter.letters, 6):
                firsts.setdefault(left_too(rewriter, rest), rest)
            for many in range(len(rewriter.states) + 1):
                for states in itertools.combinations(rewriter.states, many):
                    if states in firsts:
                        self.assertEqual(first_rest(rewriter, states), firsts[states])
                    elif states not in rest_sets(rewriter):
                        self.assertIs(first_rest(rewriter, states), None)

    def test_first_rest_is_not_the_one_by_which_a_set_is_met(self):
        # LEFT("a") comes before LEFT("b"), so the last set is met by "ba", though "ab" is first.
        rewriter = Rewriter("ab", {0: "", 1: "", 2: ""}, ((1, "a", "", 3), (2, "b", "", 3), (0, "b", "", 1), (0, "a", "", 2)), {3: ""})
        rows, rests = sets_too(rewriter)
        self.assertEqual(rests[rows.index((0,))], "ba")
        self.assertEqual(first_rest(rewriter, (0,)), "ab")
        self.assertEqual(rest_sets(rewriter), ((3,), (1,), (2,), (), (0,)))

    def test_256_and_257_rest_sets(self):
        exactly, more = many_sets(), many_sets(more=True)
        self.assertEqual(len(rest_sets(exactly)), 256)
        self.assertEqual(len(set(rest_sets(exactly))), 256)
        self.assertEqual(left(exactly, first_rest(exactly, (0, 2, 5, 7))), (0, 2, 5, 7))
        self.assertEqual(len(sets_too(more)[0]), 257)
        self.assertEqual(self.refused(TooMany, rest_sets, more).limit, 256)
        for states in ((0,), (), (0, 8)):
            self.assertEqual(self.refused(TooMany, first_rest, more, states).limit, 256)
        self.assertEqual(left(more, ""), (0, 8))
        self.refused(InvalidOperation, first_rest, more, (9,))
        self.refused(InvalidOperation, first_rest, more, (8, 0))

    def test_first_rest_of_many_letters(self):
        edges = tuple((at, "a", "", at + 1) for at in range(11))
        row = Rewriter("a", {0: ""}, edges, {11: ""})
        self.assertEqual([first_rest(row, (11 - at,)) for at in range(12)], ["a" * at for at in range(12)])
        self.assertEqual(first_rest(row, ()), "a" * 12)
        self.assertIs(first_rest(row, (0, 1)), None)
        # Rings of three, four and five states are all at their starts again behind sixty letters.
        rings = tuple((low + at, "a", "", low + (at + 1) % many) for low, many in ((0, 3), (3, 4), (7, 5)) for at in range(many))
        together = Rewriter("a", {0: "", 3: "", 7: ""}, rings, {0: "", 3: "", 7: ""})
        self.assertEqual(len(rest_sets(together)), 60)
        self.assertEqual(first_rest(together, (1, 4, 8)), "a" * 59)


class TestRefusals(Refusals, unittest.TestCase):
    def test_no_rewriters(self):
        for value in any_values():
            if not isinstance(value, Rewriter):
                self.refused(InvalidRewriter, left, value, None)
                self.refused(InvalidRewriter, words_ahead, value, None)
                self.refused(InvalidRewriter, rest_sets, value)
                self.refused(InvalidRewriter, first_rest, value, None)

    def test_rests(self):
        for rewriter in (LAST, DROP, CHOICE, TWICE, EMPTY):
            for value in any_values():
                wanted = None
                if not is_string_of_letters(value) or len(value) > 60:
                    wanted = InvalidText
                elif set(value) - set(rewriter.letters):
                    wanted = InvalidOperation
                self.same_as_told(wanted, left, rewriter, value)
                if wanted is None and not is_single(rewriter):
                    paper = self.refused(NotSingle, words_ahead, rewriter, value).paper
                    self.assertEqual(paper[0], "two")
                    self.assertTrue(is_single_paper(rewriter, paper))
                else:
                    self.same_as_told(wanted, words_ahead, rewriter, value)

    def test_states(self):
        for rewriter in (LAST, DROP, EMPTY, TWICE):
            for value in any_values():
                right = (type(value) is tuple and all(is_whole(state) and state in rewriter.states for state in value)
                         and all(x < y for x, y in zip(value, value[1:])))
                self.same_as_told(None if right else InvalidOperation, first_rest, rewriter, value)
        for value in ((0, True), (3, 0), (0, 0), [0, 3], (4,), {0: 3}, "0", 0):
            self.refused(InvalidOperation, first_rest, LAST, value)


if __name__ == "__main__":
    unittest.main()
