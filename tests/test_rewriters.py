"""Rewriters: [0.9], [0.10], [0.22], and module fewmarks.base.rewriters."""
import itertools
import random
import unittest

from fewmarks.base import rewriters
from fewmarks.base.rewriters import Rewriter
from fewmarks.errors import InvalidNumber, InvalidOperation, InvalidRewriter, InvalidText, TooMany
from helpers import (ADD, CHOICE, DROP, EMPTY, KNOWN, LAST, SAME, SWAP, Refusals, all_results, all_texts, any_values,
                     is_string_of_letters, is_whole, random_raws, random_rewriters, raw_of)


def forth(starts, edges):
    """The states that can be reached, by going along all edges again and again."""
    found = set(starts)
    for _ in range(13):
        found |= {edge[3] for edge in edges if edge[0] in found}
    return found


def kept_too(raw):
    """The parts of which nothing is left on no complete path."""
    letters, starts, edges, ends = raw
    useful = forth(starts, edges) & forth(ends, [(q, letter, word, p) for p, letter, word, q in edges])
    return (letters, {p: starts[p] for p in starts if p in useful},
            tuple(sorted({edge for edge in edges if edge[0] in useful and edge[3] in useful})),
            {p: ends[p] for p in ends if p in useful})


def is_state_number(value):
    return is_whole(value) and 0 <= value <= 11


def is_short(value):
    return is_string_of_letters(value) and len(value) <= 8


def is_letters_too(value):
    return is_string_of_letters(value) and 1 <= len(value) <= 4 and all(x < y for x, y in zip(value, value[1:]))


def is_table_too(value):
    return type(value) is dict and all(is_state_number(key) and is_short(value[key]) for key in value)


def is_edge_too(letters, value):
    return (type(value) is tuple and len(value) == 4 and is_state_number(value[0]) and type(value[1]) is str
            and value[1] in tuple(letters) and is_short(value[2]) and is_state_number(value[3]))


def many_edges(many):
    """So many different edges between two states."""
    words = all_texts("ab", 5)
    return tuple((0, "a", word, 1) for word in words)[:many]


class TestValues(Refusals, unittest.TestCase):
    def test_examples(self):
        self.assertEqual([LAST("ab"), LAST("ba"), ADD("abb"), ADD("bb"), SWAP("aba"), Rewriter.copying("ab")("ba")],
                         [('aabb',), ('ba',), ('baa',), ('aa',), ('baa',), ('ba',)])
        self.assertEqual([ADD[0], ADD.sources((1,), "a"), ADD.targets((0, 1), "b"), len(SWAP), "ab" in ADD, str(LAST)],
                         [((0, 'a', 'a', 0), (0, 'a', 'b', 1), (0, 'b', 'b', 0)), (0,), (0, 1), 6, True, 'rewriter of 4 states, 8 edges'])
        self.assertEqual(Rewriter("ab", {0: ""}, ((0, "a", "", 0), (0, "b", "", 1)), {0: "a"}).edges, ((0, 'a', '', 0),))

    def test_constants(self):
        self.assertEqual((rewriters.MAX_STATES, rewriters.MAX_EDGES, rewriters.MAX_WORD), (12, 64, 8))

    def test_what_is_kept(self):
        for raw in random_raws(3, 1500, states=7, edges=10):
            rewriter = Rewriter(*raw)
            letters, starts, edges, ends = kept_too(raw)
            self.assertEqual((rewriter.letters, rewriter.starts, rewriter.edges, rewriter.ends), (letters, starts, edges, ends))
            self.assertEqual(list(rewriter.starts), sorted(starts))
            self.assertEqual(list(rewriter.ends), sorted(ends))
            states = {edge[0] for edge in edges} | {edge[3] for edge in edges} | set(starts) | set(ends)
            self.assertEqual(rewriter.states, tuple(sorted(states)))
            self.assertIs(bool(rewriter), states != set())
            self.assertEqual(len(rewriter), len(edges))
            self.assertEqual(list(rewriter), list(edges))
            self.assertEqual(str(rewriter), f"rewriter of {len(states)} states, {len(edges)} edges")

    def test_edges_and_dicts_in_any_order_and_repeated(self):
        chance = random.Random(4)
        for raw in random_raws(5, 200):
            letters, starts, edges, ends = raw
            rows = list(edges) * 2
            chance.shuffle(rows)
            other = Rewriter(letters, dict(reversed(starts.items())), tuple(rows), dict(reversed(ends.items())))
            self.assertEqual(other, Rewriter(*raw))
            self.assertEqual(str(other), str(Rewriter(*raw)))
            self.assertEqual(list(other.starts), list(Rewriter(*raw).starts))
            self.assertEqual(list(other.ends), list(Rewriter(*raw).ends))

    def test_states_keep_their_numbers(self):
        rewriter = Rewriter("az", {11: "q", 4: "x"}, ((11, "z", "abcdefgh", 7), (4, "a", "", 3)), {7: "zzzzzzzz"})
        self.assertEqual((rewriter.states, rewriter.starts, rewriter.ends), ((7, 11), {11: "q"}, {7: "zzzzzzzz"}))
        self.assertEqual(rewriter("z"), ("qabcdefghzzzzzzzz",))
        whole = Rewriter("a", {0: ""}, tuple((at, "a", "", at + 1) for at in range(11)), {11: ""})
        self.assertEqual(whole.states, tuple(range(12)))

    def test_nothing_is_left(self):
        for rewriter in (EMPTY, Rewriter("ab", {}, (), {}), Rewriter("ab", {0: ""}, ((0, "a", "", 1),), {}),
                         Rewriter("ab", {}, ((0, "a", "", 1),), {1: ""})):
            self.assertEqual((rewriter.states, rewriter.starts, rewriter.edges, rewriter.ends), ((), {}, (), {}))
            self.assertEqual((bool(rewriter), len(rewriter), list(rewriter)), (False, 0, []))
            self.assertEqual(str(rewriter), "rewriter of 0 states, 0 edges")
            self.assertEqual((rewriter(""), rewriter("ab"), "" in rewriter), ((), (), False))
            self.assertEqual((rewriter.targets((), "a"), rewriter.sources((), "b")), ((), ()))
            self.assertEqual((rewriter.silent(), rewriter.renumbered({})), (rewriter, rewriter))
            self.assertEqual(rewriter, EMPTY)

    def test_a_state_without_edges_is_true(self):
        lone = Rewriter("a", {5: "xy"}, (), {5: "z"})
        self.assertEqual((bool(lone), len(lone), lone.states, lone(""), lone("a")), (True, 0, (5,), ("xyz",), ()))
        self.assertEqual(str(lone), "rewriter of 1 states, 0 edges")

    def test_copying(self):
        for letters in ("a", "ab", "mz", "abcd"):
            rewriter = Rewriter.copying(letters)
            self.assertEqual(rewriter.states, (0,))
            for text in all_texts(letters, 3):
                self.assertEqual(rewriter(text), (text,))

    def test_64_and_65_edges(self):
        start, end = {0: ""}, {1: ""}
        self.assertEqual(len(Rewriter("a", start, many_edges(63), end)), 63)
        full = Rewriter("a", start, many_edges(60) + many_edges(63) + many_edges(63)[:1], end)
        self.assertEqual(len(full), 63)
        self.assertEqual(len(Rewriter("ab", start, many_edges(63) + ((0, "b", "", 1),) * 9, end)), 64)
        self.refused(InvalidRewriter, Rewriter, "ab", start, many_edges(63) + ((0, "b", "", 1), (0, "b", "a", 1)), end)
        # Edges count that would be left out.
        self.refused(InvalidRewriter, Rewriter, "ab", start, many_edges(63) + ((0, "b", "", 2), (3, "b", "", 4)), end)
        self.refused(InvalidRewriter, Rewriter, "ab", {}, many_edges(63) + ((0, "b", "", 2), (3, "b", "", 4)), {})
        self.refused(InvalidRewriter, full.with_edge((0, "a", "zz", 1)).with_edge, (0, "a", "zzz", 1))
        self.assertEqual(len(full.with_edge((0, "a", "zz", 1)).with_edge((0, "a", "zz", 1))), 64)

    def test_equality(self):
        for one, other in itertools.product(KNOWN, repeat=2):
            self.assertIs(one == other, raw_of(one) == raw_of(other))
            self.assertIs(one != other, raw_of(one) != raw_of(other))
        for rewriter in KNOWN[:4]:
            self.assertEqual(Rewriter(*raw_of(rewriter)), rewriter)
            for value in any_values():
                if not isinstance(value, Rewriter):
                    self.assertIs(rewriter == value, False)
                    self.assertIs(rewriter != value, True)
        plain = Rewriter("a", {0: ""}, ((0, "a", "", 0),), {0: ""})
        for other in (Rewriter("ab", {0: ""}, ((0, "a", "", 0),), {0: ""}), Rewriter("a", {0: "a"}, ((0, "a", "", 0),), {0: ""}),
                      Rewriter("a", {0: ""}, ((0, "a", "", 0),), {0: "a"}), Rewriter("a", {1: ""}, ((1, "a", "", 1),), {1: ""}),
                      Rewriter("a", {0: ""}, ((0, "a", "a", 0),), {0: ""}), Rewriter("a", {0: ""}, (), {0: ""})):
            self.assertNotEqual(plain, other)

    def test_what_is_handed_out_is_a_copy(self):
        starts, ends = {0: ""}, {0: "a"}
        rewriter = Rewriter("a", starts, ((0, "a", "", 0),), ends)
        twin = Rewriter("a", {0: ""}, ((0, "a", "", 0),), {0: "a"})
        starts[0], ends[0] = "zz", "zz"
        starts[1] = "q"
        for table in (rewriter.starts, rewriter.ends):
            table[0] = "b"
            table[5] = "c"
        rewriter.ends.clear()
        self.assertEqual(rewriter, twin)
        self.assertEqual((rewriter.starts, rewriter.ends, rewriter("")), ({0: ""}, {0: "a"}, ("a",)))
        for kept in (rewriter.edges, rewriter.states, rewriter[0]):
            self.assertIsInstance(kept, tuple)
        for name in ("letters", "states", "starts", "edges", "ends"):
            self.assertRaises(AttributeError, setattr, rewriter, name, None)

    def test_arguments_stay_as_they_are(self):
        starts, ends, edges = {3: "", 1: "a"}, {2: "", 1: "b"}, ((1, "a", "", 2), (1, "a", "", 2))
        Rewriter("a", starts, edges, ends)
        self.assertEqual((list(starts.items()), list(ends.items())), ([(3, ""), (1, "a")], [(2, ""), (1, "b")]))
        numbers = {2: 5, 1: 6}
        Rewriter("a", {1: ""}, edges, {2: ""}).renumbered(numbers)
        self.assertEqual(list(numbers.items()), [(2, 5), (1, 6)])


class TestResults(Refusals, unittest.TestCase):
    def test_results_against_all_paths(self):
        for raw in random_raws(6, 400):
            rewriter = Rewriter(*raw)
            for text in all_texts(raw[0], 4):
                wanted = all_results(raw, text)
                if len(wanted) <= 1000:
                    self.assertEqual(rewriter(text), wanted)
                self.assertIs(text in rewriter, wanted != ())

    def test_results_in_order(self):
        self.assertEqual(CHOICE("aa"), ("aa", "ab", "ba", "bb"))
        sizes = Rewriter("a", {0: ""}, ((0, "a", "b", 1), (0, "a", "aa", 1), (0, "a", "", 1), (0, "a", "a", 1)), {1: ""})
        self.assertEqual(sizes("a"), ("", "a", "b", "aa"))

    def test_more_than_1000_results(self):
        self.assertEqual(len(CHOICE("a" * 9)), 512)
        for length in (10, 11, 60):
            self.assertEqual(self.refused(TooMany, CHOICE, "a" * length).limit, 1000)
        words = all_texts("ab", 3)[1:11]
        thousand = tuple((at, "a", word + "c", at + 1) for at in range(3) for word in words)
        exactly = Rewriter("a", {0: ""}, thousand, {3: ""})
        self.assertEqual(exactly("aaa"), all_results(raw_of(exactly), "aaa"))
        self.assertEqual(len(exactly("aaa")), 1000)
        more = Rewriter("a", {0: "", 4: "z"}, thousand + tuple((at, "a", "", at + 1) for at in (4, 5, 6)), {3: "", 7: ""})
        self.refused(TooMany, more, "aaa")
        self.assertEqual(len(more("aa")), 0)

    def test_what_is_written_on_no_complete_path_does_not_count(self):
        side = Rewriter("ab", {0: "", 1: ""}, ((0, "a", "a", 0), (0, "a", "b", 0), (0, "b", "", 2), (1, "a", "x", 1)), {2: "", 1: ""})
        self.assertEqual(side("a" * 60), ("x" * 60,))
        self.assertEqual(side("ab"), ("a", "b"))
        self.refused(TooMany, side, "a" * 59 + "b")

    def test_many_paths_that_write_the_same(self):
        self.assertEqual(SAME("a" * 60), ("",))

    def test_in_accepts_any_value_and_long_texts(self):
        for rewriter in KNOWN:
            for value in any_values():
                self.assertIsInstance(value in rewriter, bool)
        self.assertIs("ab" * 5000 in ADD, True)
        self.assertIs("ba" * 5000 in DROP, False)
        self.assertIs("a" * 5001 in DROP, True)
        self.assertIs("a" * 61 in SWAP, True)
        self.assertIs("c" in ADD, False)
        self.assertIs("ab\n" in ADD, False)
        only = Rewriter("ab", {0: ""}, ((0, "a", "", 1), (1, "b", "", 0)), {0: ""})
        self.assertEqual([text in only for text in ("", "a", "ab", "ab" * 40, "ab" * 40 + "a")], [True, False, True, True, False])
        for value in (["ab"], ("a", "b"), ("ab",), {"ab": 1}, 0, None, True):
            self.assertIs(value in ADD, False)


class TestMethods(Refusals, unittest.TestCase):
    def test_edges_targets_and_sources(self):
        for rewriter in random_rewriters(7, 150):
            for state in rewriter.states:
                self.assertEqual(rewriter[state], tuple(edge for edge in rewriter.edges if edge[0] == state))
            for many in range(len(rewriter.states) + 1):
                for states in itertools.combinations(rewriter.states, many):
                    for letter in rewriter.letters:
                        edges = [edge for edge in rewriter.edges if edge[1] == letter]
                        self.assertEqual(rewriter.targets(states, letter), tuple(sorted({e[3] for e in edges if e[0] in states})))
                        self.assertEqual(rewriter.sources(states, letter), tuple(sorted({e[0] for e in edges if e[3] in states})))

    def test_with_and_without_an_edge(self):
        for rewriter in random_rewriters(8, 100):
            letters, starts, edges, ends = raw_of(rewriter)
            for edge in edges:
                self.assertEqual(rewriter.with_edge(edge), rewriter)
                fewer = rewriter.without_edge(edge)
                self.assertEqual(fewer, Rewriter(letters, starts, tuple(e for e in edges if e != edge), ends))
                self.assertNotIn(edge, list(fewer))
            for state in rewriter.states:
                more = rewriter.with_edge((state, letters[0], "qqq", state))
                self.assertEqual(len(more), len(rewriter) + 1)
                self.assertEqual(more.without_edge((state, letters[0], "qqq", state)), rewriter)
        self.assertEqual(ADD.with_edge((1, "a", "", 7)), ADD)
        self.assertEqual(ADD.with_edge((7, "a", "", 1)), ADD)

    def test_edges_that_go_take_others_with_them(self):
        chain = Rewriter("a", {0: "", 3: ""}, ((0, "a", "", 1), (1, "a", "", 2)), {2: "", 3: ""})
        self.assertEqual(chain.without_edge((0, "a", "", 1)).states, (3,))

    def test_renumbered(self):
        chance = random.Random(9)
        for rewriter in random_rewriters(10, 100):
            numbers = dict(zip(rewriter.states, chance.sample(range(12), len(rewriter.states))))
            other = rewriter.renumbered(numbers)
            self.assertEqual(other.states, tuple(sorted(numbers.values())))
            self.assertEqual(set(other.edges), {(numbers[p], a, w, numbers[q]) for p, a, w, q in rewriter.edges})
            self.assertEqual(other.starts, {numbers[p]: w for p, w in rewriter.starts.items()})
            self.assertEqual(other.ends, {numbers[p]: w for p, w in rewriter.ends.items()})
            self.assertEqual(other.renumbered({new: old for old, new in reversed(numbers.items())}), rewriter)

    def test_silent(self):
        for rewriter in random_rewriters(11, 100):
            silent = rewriter.silent()
            self.assertEqual(silent.states, rewriter.states)
            for text in all_texts(rewriter.letters, 3):
                self.assertEqual(silent(text), ("",) if text in rewriter else ())
        self.assertEqual(len(CHOICE.silent()), 1)

    def test_nothing_changes_a_rewriter(self):
        before = raw_of(LAST)
        LAST.with_edge((0, "a", "", 3))
        LAST.without_edge((0, "a", "a", 0))
        LAST.renumbered({0: 1, 1: 0, 2: 3, 3: 2})
        LAST.silent()
        LAST("abab")
        self.refused(InvalidOperation, LAST.without_edge, (0, "a", "", 3))
        self.assertEqual(raw_of(LAST), before)


class TestRefusals(Refusals, unittest.TestCase):
    def test_parts(self):
        good = ("ab", {0: ""}, ((0, "a", "a", 0),), {0: ""})
        for value in any_values():
            self.same_as_told(None if is_letters_too(value) and "a" in value else InvalidRewriter, Rewriter, value, *good[1:])
            self.same_as_told(None if is_table_too(value) else InvalidRewriter, Rewriter, "ab", value, good[2], good[3])
            right = type(value) is tuple and all(is_edge_too("ab", edge) for edge in value)
            self.same_as_told(None if right else InvalidRewriter, Rewriter, "ab", good[1], value, good[3])
            self.same_as_told(None if is_table_too(value) else InvalidRewriter, Rewriter, "ab", good[1], good[2], value)
            self.same_as_told(None if is_letters_too(value) else InvalidRewriter, Rewriter.copying, value)

    def test_parts_of_edges_and_tables(self):
        edge = (0, "a", "a", 0)
        for value in any_values():
            for at in range(4):
                bent = edge[:at] + (value,) + edge[at + 1:]
                right = is_edge_too("ab", bent)
                self.same_as_told(None if right else InvalidRewriter, Rewriter, "ab", {0: ""}, (edge, bent), {0: ""})
                self.same_as_told(None if right else InvalidRewriter, ADD.with_edge, bent)
            for right, table in [(is_short(value), {0: "", 1: value})] + (
                    [(is_state_number(value), {3: "", value: "a"})] if type(value) in (int, bool, str, type(None)) else []):
                self.same_as_told(None if right else InvalidRewriter, Rewriter, "ab", table, (edge,), {0: ""})
                self.same_as_told(None if right else InvalidRewriter, Rewriter, "ab", {0: ""}, (edge,), table)
        for bent in (list(edge), edge + (0,), edge[:3], (edge,), {0: edge}):
            self.refused(InvalidRewriter, Rewriter, "ab", {0: ""}, (bent,), {0: ""})
        self.refused(InvalidRewriter, Rewriter, "ab", {0: ""}, [edge], {0: ""})
        self.refused(InvalidRewriter, Rewriter, "ab", ((0, ""),), (edge,), {0: ""})

    def test_text(self):
        for rewriter in (LAST, DROP, EMPTY, Rewriter.copying("abcd")):
            for value in any_values():
                wanted = None
                if not is_string_of_letters(value) or len(value) > 60:
                    wanted = InvalidText
                elif set(value) - set(rewriter.letters):
                    wanted = InvalidOperation
                self.same_as_told(wanted, rewriter, value)
        self.refused(InvalidOperation, LAST, "c" * 60)
        self.refused(InvalidText, LAST, "c" * 61)

    def test_state(self):
        for rewriter in (LAST, ADD, EMPTY):
            for value in any_values():
                right = is_whole(value) and value in rewriter.states
                self.same_as_told(None if right else (InvalidNumber, value), lambda one, two: one[two], rewriter, value)

    def test_states_and_letter(self):
        for rewriter in (LAST, DROP):
            for states in any_values():
                row = (type(states) is tuple and all(is_whole(state) and state in rewriter.states for state in states)
                       and all(x < y for x, y in zip(states, states[1:])))
                for letter in any_values():
                    right = row and type(letter) is str and letter in tuple(rewriter.letters)
                    self.same_as_told(None if right else InvalidOperation, rewriter.targets, states, letter)
                    self.same_as_told(None if right else InvalidOperation, rewriter.sources, states, letter)
        for states in ((1, 0), (0, 0), (0, 4), [0, 1], (0, True)):
            self.refused(InvalidOperation, LAST.targets, states, "a")

    def test_edges(self):
        for value in any_values():
            right = is_edge_too("ab", value)
            self.same_as_told(None if right else InvalidRewriter, LAST.with_edge, value)
            there = right and value in LAST.edges
            self.same_as_told(None if there else InvalidOperation, LAST.without_edge, value)
        for value in ((False, "a", "a", 0), (0, "a", "a", False), (0, "b", "b", True), [0, "a", "a", 0], (0, "a", "b", 0)):
            self.refused(InvalidOperation, LAST.without_edge, value)
        for value in ((0, "b", "b", True), (12, "a", "", 0), (0, "c", "", 0), (0, "a", "a" * 9, 0), (0, "ab", "", 0), (0, "", "", 0)):
            self.refused(InvalidRewriter, LAST.with_edge, value)

    def test_numbers(self):
        for value in any_values():
            self.refused(InvalidOperation, LAST.renumbered, value)
            right = value == {} and type(value) is dict
            self.same_as_told(None if right else InvalidOperation, EMPTY.renumbered, value)
        for numbers in ({0: 0}, {0: 0, 1: 0}, {0: 0, 1: 12}, {0: 0, 1: -1}, {0: 0, True: 1}, {False: 0, 1: 1}, {0: True, 1: 2},
                        {0: 0, 1: 1, 2: 2}, {0: 0, 2: 1}, {0: "0", 1: 1}, {"0": 0, 1: 1}, {0: [], 1: 1}, {0: 0, (1,): 1},
                        {0: 0, None: 1}, {0: None, 1: 1}, [(0, 0), (1, 1)], ((0, 0), (1, 1)), (0, 1), [0, 1]):
            self.refused(InvalidOperation, ADD.renumbered, numbers)
        self.assertEqual(ADD.renumbered({1: 0, 0: 1}).starts, {0: "", 1: ""})


if __name__ == "__main__":
    unittest.main()
