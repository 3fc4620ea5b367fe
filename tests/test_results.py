"""Paths and results: [0.9], [0.10], and module fewmarks.base.results."""
import itertools
import unittest

from fewmarks.base.results import (domain_size, is_path, paths, reads, result, text_at, texts_with_results,
                                   writes)
from fewmarks.base.rewriters import Rewriter
from fewmarks.errors import InvalidNumber, InvalidOperation, InvalidRewriter, InvalidText
from helpers import (ADD, CHOICE, DROP, EMPTY, KNOWN, LAST, SAME, SWAP, TURNS, Refusals, all_results, all_texts, all_trails,
                     any_values, is_string_of_letters, is_whole, random_raws, random_rewriters, raw_of, trail_word)

GAPS = Rewriter("abcd", {2: "q"}, ((2, "b", "", 4), (4, "d", "x", 2), (2, "b", "x", 2)), {4: ""})


def is_path_too(rewriter, value):
    """Whether this is a path, told letter by letter with kinds of all parts."""
    if type(value) is not tuple or len(value) != 2 or type(value[0]) is not int or type(value[1]) is not tuple:
        return False
    if value[0] not in rewriter.starts:
        return False
    state = value[0]
    for edge in value[1]:
        if type(edge) is not tuple or [type(part) for part in edge] != [int, str, str, int]:
            return False
        if edge not in rewriter.edges or edge[0] != state:
            return False
        state = edge[3]
    return True


def any_paths(rewriter, length):
    """All paths, complete or not, with at most so many edges."""
    last = [(start, ()) for start in rewriter.starts]
    rows = list(last)
    for _ in range(length):
        last = [(start, row + (edge,)) for start, row in last for edge in rewriter.edges
                if edge[0] == (row[-1][3] if row else start)]
        rows += last
    return rows


def nearly_paths(path):
    """Values that are nearly this path."""
    start, row = path
    yield from [list(path), (start,), path + ((),), (list((start,)), row), (start, list(row)), (str(start), row),
                (start == 1, row), (bool(start), row), (start + 20, row), (-1, row), (None, row), (row, start), row, start]
    for at, edge in enumerate(row):
        for bent in (list(edge), edge[:3], edge + (0,), (bool(edge[0]),) + edge[1:], edge[:3] + (bool(edge[3]),),
                     (edge[0], edge[1], edge[2] + "y", edge[3]), (edge[0], edge[2] + "q", edge[1], edge[3]), edge[::-1], None):
            yield (start, row[:at] + (bent,) + row[at + 1:])


class TestPaths(Refusals, unittest.TestCase):
    def test_examples(self):
        self.assertEqual([list(paths(ADD, "ab")), writes(ADD, (1, ((1, "b", "a", 1),))), result(SWAP, "abb"), domain_size(LAST, 60)],
                         [[(0, ((0, 'a', 'b', 1), (1, 'b', 'a', 1)))], 'a', 'bab', 1152921504606846976])
        self.assertEqual([list(texts_with_results(SWAP, 1)), text_at(SWAP, 3, 5), is_path(LAST, (2, ())), reads(LAST, (2, ()))],
                         [['a', 'b'], 'bab', True, ''])

    def test_paths_against_all_edges(self):
        for raw in random_raws(30, 300) + [raw_of(rewriter) for rewriter in KNOWN]:
            rewriter = Rewriter(*raw)
            for text in all_texts(raw[0], 3):
                trails = all_trails(raw, text)
                self.assertEqual(list(paths(rewriter, text)), trails)
                for trail in trails:
                    self.assertIs(is_path(rewriter, trail), True)
                    self.assertEqual((reads(rewriter, trail), writes(rewriter, trail)), (text, trail_word(raw, trail)))

    def test_paths_come_one_by_one(self):
        text = "a" * 60
        first = CHOICE.edges[0]
        rows = paths(CHOICE, text)
        self.assertEqual(next(rows), (0, (first,) * 60))
        self.assertEqual(next(rows), (0, (first,) * 59 + (CHOICE.edges[1],)))
        some = [next(rows) for _ in range(1000)]
        self.assertEqual(some, sorted(set(some)))
        self.assertEqual([writes(CHOICE, path) for path in some[:2]], ["a" * 58 + "ba", "a" * 58 + "bb"])

    def test_paths_that_cannot_be_completed_take_no_time(self):
        hidden = Rewriter("ab", {0: "", 2: ""}, ((0, "a", "", 0), (0, "a", "x", 0), (0, "b", "", 1), (2, "a", "", 2)), {1: "", 2: ""})
        self.assertEqual(list(paths(hidden, "a" * 60)), [(2, ((2, "a", "", 2),) * 60)])

    def test_words_of_ends_only_where_a_path_is_complete(self):
        for rewriter in random_rewriters(31, 150) + list(KNOWN):
            for path in any_paths(rewriter, 3):
                last = path[1][-1][3] if path[1] else path[0]
                word = rewriter.starts[path[0]] + "".join(edge[2] for edge in path[1]) + rewriter.ends.get(last, "")
                self.assertEqual(writes(rewriter, path), word)
                self.assertEqual(reads(rewriter, path), "".join(edge[1] for edge in path[1]))
                self.assertIs(is_path(rewriter, path), True)
        self.assertEqual([writes(SWAP, (0, ())), writes(SWAP, (0, ((0, "a", "", 1),)))], ["", "a"])

    def test_what_is_nearly_a_path(self):
        for rewriter in random_rewriters(32, 60) + list(KNOWN):
            for path in any_paths(rewriter, 2):
                for value in nearly_paths(path):
                    self.assertIs(is_path(rewriter, value), is_path_too(rewriter, value))
            for edges in itertools.product(rewriter.edges, repeat=2):
                for state in range(12):
                    self.assertIs(is_path(rewriter, (state, edges)), is_path_too(rewriter, (state, edges)))
        for value in ((True, ()), (1.0, ()), (0, []), [0, ()], (3, ()), (0, ((1, "b", "a", 1),)), (1, ((True, "b", "a", 1),)),
                      (1, ((1, "b", "a", True),)), (0, ((0, "a", "b", 1), (0, "a", "a", 0))), (0, ([0, "a", "b", 1],))):
            self.assertIs(is_path(ADD, value), False)
        self.assertIs(is_path(LAST, (1, ())), False)

    def test_long_paths(self):
        path = (2, ((2, "a", "aa", 2),) * 5000)
        self.assertIs(is_path(LAST, path), True)
        self.assertEqual((reads(LAST, path), writes(LAST, path)), ("a" * 5000, "a" * 10000))


class TestResult(Refusals, unittest.TestCase):
    def test_none_one_and_more(self):
        for raw in random_raws(33, 300) + [raw_of(rewriter) for rewriter in KNOWN]:
            rewriter = Rewriter(*raw)
            for text in all_texts(raw[0], 4):
                wanted = all_results(raw, text)
                if len(wanted) > 1:
                    self.refused(InvalidOperation, result, rewriter, text)
                else:
                    self.assertEqual(result(rewriter, text), wanted[0] if wanted else None)

    def test_many_paths_that_write_the_same(self):
        self.assertEqual(result(SAME, "a" * 60), "")
        self.assertEqual(result(EMPTY, ""), None)
        self.assertEqual(result(DROP, ""), "")

    def test_two_and_very_many_results(self):
        self.assertEqual(result(CHOICE, ""), "")
        self.refused(InvalidOperation, result, CHOICE, "a")
        self.refused(InvalidOperation, result, CHOICE, "a" * 60)
        ends = Rewriter("a", {0: "", 1: "x"}, (), {0: "x", 1: "x"})
        self.refused(InvalidOperation, result, ends, "")
        same = Rewriter("a", {0: "", 1: "x"}, (), {0: "xy", 1: "y"})
        self.assertEqual(result(same, ""), "xy")

    def test_what_is_written_on_no_complete_path_does_not_count(self):
        side = Rewriter("ab", {0: "", 1: ""}, ((0, "a", "a", 0), (0, "a", "b", 0), (0, "b", "", 2), (1, "a", "x", 1)), {2: "", 1: ""})
        self.assertEqual(result(side, "a" * 60), "x" * 60)
        self.refused(InvalidOperation, result, side, "ab")


class TestDomains(Refusals, unittest.TestCase):
    def test_numbers_texts_and_indices(self):
        for raw in random_raws(34, 150) + [raw_of(rewriter) for rewriter in KNOWN + (GAPS,)]:
            rewriter = Rewriter(*raw)
            for length in range(4):
                wanted = [text for text in all_texts(raw[0], length) if len(text) == length and all_trails(raw, text)]
                self.assertEqual(domain_size(rewriter, length), len(wanted))
                self.assertEqual(list(texts_with_results(rewriter, length)), wanted)
                self.assertEqual([text_at(rewriter, length, index) for index in range(len(wanted))], wanted)
                self.assertEqual(self.refused(InvalidNumber, text_at, rewriter, length, len(wanted)).value, len(wanted))
                self.assertEqual(self.refused(InvalidNumber, text_at, rewriter, length, -1).value, -1)

    def test_long_texts(self):
        self.assertEqual([domain_size(Rewriter.copying("abcd"), 60), domain_size(CHOICE, 60), domain_size(EMPTY, 60)], [4 ** 60, 1, 0])
        self.assertEqual(domain_size(DROP, 60), 1)
        for length in (0, 1, 2, 7, 59, 60):
            fitting = Rewriter("ab", {0: ""}, ((0, "a", "", 0), (0, "b", "", 1), (1, "a", "", 0)), {0: "", 1: ""})
            one, two = 1, 2
            for _ in range(length):
                one, two = two, one + two
            self.assertEqual(domain_size(fitting, length), one)
            self.assertEqual(text_at(fitting, length, 0), "a" * length)
            self.assertEqual(text_at(fitting, length, one - 1), ("ba" * 30)[:length])
            self.refused(InvalidNumber, text_at, fitting, length, one)
        self.assertEqual(text_at(Rewriter.copying("abcd"), 60, 4 ** 60 - 1), "d" * 60)
        self.assertEqual(text_at(Rewriter.copying("abcd"), 60, 4 ** 59), "b" + "a" * 59)
        self.refused(InvalidNumber, text_at, Rewriter.copying("abcd"), 60, 4 ** 60)
        self.refused(InvalidNumber, text_at, EMPTY, 60, 0)

    def test_texts_come_one_by_one(self):
        rows = texts_with_results(Rewriter.copying("abcd"), 60)
        self.assertEqual([next(rows)[57:] for _ in range(6)], ["aaa", "aab", "aac", "aad", "aba", "abb"])
        late = Rewriter("ab", {0: ""}, ((0, "a", "", 0), (0, "b", "", 0), (0, "b", "", 1)), {1: ""})
        self.assertEqual(next(texts_with_results(late, 60)), "a" * 59 + "b")
        self.assertEqual(list(texts_with_results(GAPS, 0)), [])

    def test_letters_that_no_edge_reads(self):
        self.assertEqual([domain_size(GAPS, length) for length in range(6)], [0, 1, 1, 2, 3, 5])
        self.assertEqual(list(texts_with_results(GAPS, 3)), ["bbb", "bdb"])
        self.assertEqual(text_at(GAPS, 3, 1), "bdb")

    def test_texts_with_many_paths_count_once(self):
        self.assertEqual([domain_size(SAME, length) for length in (0, 1, 2, 60)], [1] * 4)
        self.assertEqual(list(texts_with_results(CHOICE, 60)), ["a" * 60])

    def test_many_rest_sets(self):
        edges = tuple((at, "a", "", (at + 1) % 12) for at in range(12)) + tuple((at, "b", "", at) for at in range(1, 12))
        edges += ((0, "c", "", 1), (1, "c", "", 0)) + tuple((at, "c", "", at) for at in range(2, 12))
        large = Rewriter("abcd", {0: ""}, edges + tuple((at, "d", "", at) for at in range(12)) + ((0, "d", "", 1),), {state: "" for state in (0, 3, 7)})
        self.assertEqual([domain_size(large, length) for length in range(5)],
                         [sum(text in large for text in all_texts("abcd", length) if len(text) == length) for length in range(5)])
        size = domain_size(large, 60)
        text = text_at(large, 60, size - 1)
        self.assertIn(text, large)
        self.refused(InvalidNumber, text_at, large, 60, size)


class TestRefusals(Refusals, unittest.TestCase):
    def text_refusal(self, rewriter, text):
        if not is_string_of_letters(text) or len(text) > 60:
            return InvalidText
        return InvalidOperation if set(text) - set(rewriter.letters) else None

    def test_no_rewriters(self):
        for value in any_values():
            if isinstance(value, Rewriter):
                continue
            for other in (None, "a", (0, ()), 3):
                for call in (is_path, reads, writes, result, domain_size):
                    self.refused(InvalidRewriter, call, value, other)
                self.refused(InvalidRewriter, text_at, value, other, 0)
                self.refused(InvalidRewriter, next, paths(value, other))
                self.refused(InvalidRewriter, next, texts_with_results(value, other))

    def test_path(self):
        for rewriter in (LAST, ADD, EMPTY):
            for value in any_values():
                self.assertIs(is_path(rewriter, value), is_path_too(rewriter, value))
                wanted = None if is_path_too(rewriter, value) else InvalidOperation
                self.same_as_told(wanted, reads, rewriter, value)
                self.same_as_told(wanted, writes, rewriter, value)

    def test_text(self):
        for rewriter in (ADD, DROP, EMPTY):
            for value in any_values():
                wanted = self.text_refusal(rewriter, value)
                self.same_as_told(wanted, result, rewriter, value)
                self.same_as_told(wanted, lambda one, two: list(paths(one, two)), rewriter, value)

    def test_length_and_index(self):
        for length in any_values():
            right = is_whole(length) and 0 <= length <= 60
            wanted = None if right else (InvalidNumber, length)
            self.same_as_told(wanted, domain_size, TURNS, length)
            self.same_as_told(wanted, lambda one, two: next(texts_with_results(one, two), None), TURNS, length)
            for index in any_values():
                if right:
                    wanted = None if is_whole(index) and 0 <= index < domain_size(TURNS, length) else (InvalidNumber, index)
                self.same_as_told(wanted, text_at, TURNS, length, index)

    def test_generators_raise_when_the_first_result_is_asked_for(self):
        for rows, error in ((paths(None, None), InvalidRewriter), (paths(ADD, 3), InvalidText), (paths(ADD, "c"), InvalidOperation),
                            (texts_with_results(0, 0), InvalidRewriter), (texts_with_results(ADD, True), InvalidNumber)):
            self.refused(error, next, rows)


if __name__ == "__main__":
    unittest.main()
