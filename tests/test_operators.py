"""The operators of rewriters: ~, | and >>, as stage 16 tells them [16.1]."""
import itertools
import unittest

from fewmarks.base.rewriters import Rewriter
from fewmarks.errors import InvalidOperation, InvalidRewriter, NotSingle, TooMany
from fewmarks.pairs.single import is_single, is_single_paper
from helpers import (ADD, CHOICE, DROP, EMPTY, KNOWN, LAST, SWAP, TWICE, Refusals, all_results, all_texts, any_values,
                     random_rewriters, random_singles, raw_of)

PLAIN = Rewriter.copying("ab")


def chosen_too(one, other):
    """The parts of the rewriter with the results of both."""
    parts = [{}, [], {}]
    names = {}
    for side, rewriter in enumerate((one, other)):
        for state in rewriter.states:
            names[(side, state)] = len(names)
        parts[0].update({names[(side, p)]: word for p, word in rewriter.starts.items()})
        parts[1] += [(names[(side, p)], letter, word, names[(side, q)]) for p, letter, word, q in rewriter.edges]
        parts[2].update({names[(side, p)]: word for p, word in rewriter.ends.items()})
    return names, parts


def ways_too(rewriter, state, word):
    """All pairs (state, written) to which edges lead that read a word."""
    if word == "":
        return {(state, "")}
    return {(after, edge[2] + written) for edge in rewriter.edges if edge[0] == state and edge[1] == word[0]
            for after, written in ways_too(rewriter, edge[3], word[1:])}


def behind_too(one, other):
    """Starts, edges and ends over pairs of states, what is on no complete path left out."""
    starts = {((p, q), outer + written) for p, word in one.starts.items() for first, outer in other.starts.items()
              for q, written in ways_too(other, first, word)}
    edges = {((p, x), letter, written, (q, y)) for p, letter, word, q in one.edges for x in other.states
             for y, written in ways_too(other, x, word)}
    ends = {((p, x), written + other.ends[y]) for p, word in one.ends.items() for x in other.states
            for y, written in ways_too(other, x, word) if y in other.ends}
    for _ in range(200):
        forth = {p for p, _ in starts} | {edge[3] for edge in edges}
        back = {p for p, _ in ends} | {edge[0] for edge in edges}
        edges = {edge for edge in edges if edge[0] in forth and edge[3] in back}
    live = reach({p for p, _ in starts}, edges) & reach({p for p, _ in ends}, {(e[3], 0, 0, e[0]) for e in edges})
    names = {state: at for at, state in enumerate(sorted(live))}
    return (len(live), {names[p]: w for p, w in starts if p in live},
            tuple(sorted((names[p], a, w, names[q]) for p, a, w, q in edges if p in live and q in live)),
            {names[p]: w for p, w in ends if p in live})


def reach(begin, edges):
    found = set(begin)
    while True:
        more = {edge[3] for edge in edges if edge[0] in found} - found
        if not more:
            return found
        found |= more


def limit_of(many, edges, words):
    """The limit that is passed, or None."""
    if many > 12:
        return 12
    if len(edges) > 64:
        return 64
    return 8 if any(len(word) > 8 for word in words) else None


class TestTurned(Refusals, unittest.TestCase):
    def test_parts_and_results(self):
        for rewriter in random_rewriters(20, 200) + list(KNOWN):
            turned = ~rewriter
            self.assertEqual(turned.starts, {p: word[::-1] for p, word in rewriter.ends.items()})
            self.assertEqual(turned.ends, {p: word[::-1] for p, word in rewriter.starts.items()})
            self.assertEqual(set(turned.edges), {(q, letter, word[::-1], p) for p, letter, word, q in rewriter.edges})
            self.assertEqual((turned.states, turned.letters), (rewriter.states, rewriter.letters))
            self.assertEqual(~turned, rewriter)
            for text in all_texts(rewriter.letters, 3):
                self.assertEqual(set(all_results(raw_of(turned), text[::-1])), {word[::-1] for word in all_results(raw_of(rewriter), text)})

    def test_example(self):
        self.assertEqual((~DROP)("aaa"), ("aa",))


class TestChosen(Refusals, unittest.TestCase):
    def test_examples(self):
        self.assertEqual((PLAIN | LAST)("b"), ("b", "bb"))
        twice = LAST.with_edge((0, "b", "a", 1)) | Rewriter.copying("ab")
        self.assertEqual([is_single(twice), is_single(LAST | LAST)], [False, True])

    def test_parts_and_results(self):
        for letters in ("a", "ab"):
            some = random_rewriters(21, 18, letters=letters)
            for one, other in itertools.product(some, repeat=2):
                names, (starts, edges, ends) = chosen_too(one, other)
                chosen = one | other
                self.assertEqual((chosen.starts, chosen.edges, chosen.ends), (starts, tuple(sorted(edges)), ends))
                self.assertEqual(chosen.states, tuple(range(len(names))))
                for text in all_texts(letters, 2):
                    self.assertEqual(set(chosen(text)), set(one(text)) | set(other(text)))

    def test_limits(self):
        six = Rewriter("a", {0: ""}, tuple((p, "a", "", q) for p in range(6) for q in range(6) if p < 5 or q < 4), {5: ""})
        self.assertEqual(len(six), 34)
        self.assertEqual(self.refused(TooMany, lambda: six | six).limit, 64)
        self.assertEqual(self.refused(TooMany, lambda: six | six.with_edge((5, "a", "z", 6)).with_edge((6, "a", "", 5))).limit, 64)
        seven = Rewriter("a", {0: ""}, tuple((p, "a", "", p + 1) for p in range(6)), {6: ""})
        self.assertEqual(self.refused(TooMany, lambda: six | seven).limit, 12)
        self.assertEqual(self.refused(TooMany, lambda: seven | seven).limit, 12)
        five = Rewriter("a", {1: "a" * 8}, tuple((p, "a", "b" * 8, p + 1) for p in range(1, 5)), {5: "c" * 8})
        self.assertEqual((seven | five).states, tuple(range(12)))
        thirty = Rewriter("a", {0: ""}, six.edges[:30], {state: "" for state in range(6)})
        self.assertEqual(len(thirty), 30)
        self.assertEqual(len(six | thirty), 64)
        self.assertEqual(self.refused(TooMany, lambda: six | thirty.with_edge((5, "a", "z", 5))).limit, 64)

    def test_refusals(self):
        for value in any_values():
            if not isinstance(value, Rewriter):
                self.refused(InvalidRewriter, lambda: LAST | value)
        self.refused(InvalidOperation, lambda: LAST | DROP)
        self.refused(InvalidOperation, lambda: LAST | Rewriter.copying("abc"))
        # Unlike letters are told before there are too many states.
        seven = Rewriter("a", {0: ""}, tuple((p, "a", "", p + 1) for p in range(11)), {11: ""})
        self.refused(InvalidOperation, lambda: seven | LAST)
        self.assertEqual(EMPTY | LAST, LAST)


class TestBehind(Refusals, unittest.TestCase):
    def test_example(self):
        self.assertEqual([(ADD >> ADD)("aab"), (ADD >> ADD).states], [('abb',), (0, 1, 2, 3)])

    def test_parts_and_results(self):
        some = [rewriter for rewriter in random_rewriters(22, 1500, letters="ab", states=3, edges=6)
                if len(rewriter) > 2 and is_single(rewriter)]
        some = some[:24] + random_singles(23, 10, states=5, gaps=0, most=1) + random_singles(24, 10, states=3, most=2) + [LAST, ADD, SWAP, PLAIN, EMPTY, Rewriter("ab", {0: "ab"}, ((0, "a", "ba", 0), (0, "b", "", 0)), {0: "bb"}),
                            Rewriter("ab", {0: "ab"}, ((0, "a", "abab", 0), (0, "b", "bbb", 0)), {0: "a"})]
        self.assertEqual(len(some), 51)
        counts = {}
        for one, other in itertools.product(some, repeat=2):
            many, starts, edges, ends = behind_too(one, other)
            limit = limit_of(many, edges, list(starts.values()) + [edge[2] for edge in edges] + list(ends.values()))
            counts[limit] = counts.get(limit, 0) + 1
            if limit is not None:
                self.assertEqual(self.refused(TooMany, lambda: one >> other).limit, limit)
                continue
            behind = one >> other
            self.assertEqual((behind.starts, behind.edges, behind.ends), (starts, edges, ends))
            self.assertEqual((behind.states, behind.letters), (tuple(range(many)), "ab"))
            self.assertTrue(is_single(behind))
            for text in all_texts("ab", 4):
                wanted = {result for word in all_results(raw_of(one), text) if set(word) <= set("ab")
                          for result in all_results(raw_of(other), word)}
                self.assertEqual(set(behind(text)), wanted)
        self.assertGreater(counts[None], 400)
        self.assertGreater(counts.get(12, 0), 0)
        self.assertGreater(counts.get(8, 0), 0)

    def test_other_letters(self):
        up = Rewriter("ab", {0: ""}, ((0, "a", "x", 0), (0, "b", "y", 0)), {0: ""})
        down = Rewriter("xz", {0: "q"}, ((0, "x", "a", 0),), {0: ""})
        self.assertEqual([(up >> down)(text) for text in ("", "aa", "ab")], [("q",), ("qaa",), ()])
        self.assertEqual((up >> down).letters, "ab")
        self.assertEqual((PLAIN >> down).edges, ())

    def test_limits(self):
        wide = Rewriter("a", {0: "a" * 2}, (), {0: ""})
        eight = Rewriter("a", {0: ""}, ((0, "a", "b" * 8, 0),), {0: ""})
        self.assertEqual(self.refused(TooMany, lambda: wide >> eight).limit, 8)
        one = Rewriter("a", {0: "a"}, (), {0: ""})
        self.assertEqual((one >> eight)(""), ("b" * 8,))
        nine = Rewriter("a", {0: "z"}, ((0, "a", "b" * 8, 0),), {0: ""})
        self.assertEqual(self.refused(TooMany, lambda: one >> nine).limit, 8)
        closing = Rewriter("a", {0: ""}, (), {0: "aa"})
        self.assertEqual(self.refused(TooMany, lambda: closing >> eight).limit, 8)
        edge = Rewriter("a", {0: ""}, ((0, "a", "aa", 0),), {0: ""})
        self.assertEqual(self.refused(TooMany, lambda: edge >> eight).limit, 8)
        four = Rewriter("a", {0: ""}, tuple((p, "a", "a", (p + 1) % 4) for p in range(4)), {0: ""})
        three = Rewriter("a", {0: ""}, tuple((p, "a", "a", (p + 1) % 3) for p in range(3)), {0: ""})
        five = Rewriter("a", {0: ""}, tuple((p, "a", "a", (p + 1) % 5) for p in range(5)), {0: ""})
        self.assertEqual((four >> three).states, tuple(range(12)))
        self.assertEqual(self.refused(TooMany, lambda: five >> three).limit, 12)

    def test_too_many_edges(self):
        guess = Rewriter("ab", {0: "", 1: "", 2: "", 3: "", 4: "", 5: ""},
                         tuple((p, "ab"[p < 3], "a", q) for p in range(6) for q in range(6)), {0: ""})
        self.assertTrue(is_single(guess))
        self.assertEqual(len(guess), 36)
        second = Rewriter("a", {0: "", 1: ""}, tuple((p, "a", "", q) for p in range(2) for q in range(2)), {0: ""})
        self.assertTrue(is_single(second))
        self.assertEqual(self.refused(TooMany, lambda: guess >> second).limit, 64)

    def test_refusals_in_their_order(self):
        for value in any_values():
            if not isinstance(value, Rewriter):
                self.refused(InvalidRewriter, lambda: LAST >> value)
                self.refused(InvalidRewriter, lambda: CHOICE >> value)
        for one, other, wrong in ((TWICE, LAST, TWICE), (LAST, TWICE, TWICE), (CHOICE, TWICE, CHOICE), (TWICE, CHOICE, TWICE)):
            paper = self.refused(NotSingle, lambda: one >> other).paper
            self.assertEqual(paper[0], "two")
            self.assertTrue(is_single_paper(wrong, paper))
        five = Rewriter("a", {0: ""}, tuple((p, "a", "a", (p + 1) % 5) for p in range(5)), {0: ""})
        three = Rewriter("a", {0: ""}, tuple((p, "a", "a", (p + 1) % 3) for p in range(3)), {0: ""})
        self.refused(TooMany, lambda: five >> three)
        wrong = three.with_edge((0, "a", "b", 1))
        self.assertTrue(is_single_paper(wrong, self.refused(NotSingle, lambda: five >> wrong).paper))
        self.assertTrue(is_single_paper(wrong, self.refused(NotSingle, lambda: wrong >> five).paper))

    def test_nothing_changes(self):
        before = [raw_of(rewriter) for rewriter in KNOWN]
        for rewriter in (LAST, ADD, SWAP):
            self.assertEqual((~rewriter, rewriter | PLAIN, rewriter >> PLAIN), (~rewriter, rewriter | PLAIN, rewriter >> PLAIN))
        self.assertEqual([raw_of(rewriter) for rewriter in KNOWN], before)


if __name__ == "__main__":
    unittest.main()
