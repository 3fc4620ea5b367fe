"""Writing in place: [15.1] to [15.4], [0.18], [0.22], [0.23], and module fewmarks.passes.places."""
import itertools
import random
import unittest

from fewmarks.base.rewriters import Rewriter
from fewmarks.errors import InvalidOperation, InvalidRewriter, InvalidText, TooMany
from fewmarks.machines.machines import TwoPass, does
from fewmarks.machines.marks import Marks, least_marks, map_of
from fewmarks.passes.places import (ahead_paper, is_ahead_paper, is_place_paper, is_placed, letters_ahead, place_machine, place_marks,
                                    place_paper, placed)
from fewmarks.rests.rests import rest_sets
from helpers import (ADD, CHOICE, DROP, EMPTY, LAST, SWAP, TURNS, TWICE, Refusals, all_texts, all_trails, any_values, is_string_of_letters,
                     is_whole, many_sets, random_marks, random_rewriters, random_singles, raw_of)
from second_ways import (has_result_too, left_by_runs, led_to_too, parting_texts, reached_steps_too, result_too, sources_too)
from test_domains import is_right
from test_early import same_states
from test_machines import ADDER
from test_marks import mark_too

PLAIN = Rewriter.copying("ab")


def looking(many, letters="ab"):
    """Doubles a letter if the letter so many places behind it is a b; each state knows the letters in front."""
    edges, ends = [], {}
    rows = [""] if many == 0 else all_texts("ab", many)[1:]
    names = {word: at for at, word in enumerate(rows)}
    for word in rows:
        for letter in letters:
            if many == 0:
                edges.append((names[word], letter, letter, names[word]))
                continue
            # The state is what is guessed to come.
            if word[0] == letter:
                for more in ([word[1:] + last for last in "ab"] + [word[1:]] if len(word) == many else [word[1:]]):
                    after = names.get(more)
                    if more == "":
                        after = len(rows)
                    double = len(word) == many and len(more) == many and more[-1] == "b"
                    edges.append((names[word], letter, letter * (2 if double else 1), after))
    if many == 0:
        return Rewriter(letters, {0: ""}, tuple(edges), {0: ""})
    ends[len(rows)] = ""
    return Rewriter(letters, {at: "" for at in range(len(rows) + 1)}, tuple(edges), ends)


def many_pairs(more):
    """A rewriter in place with just 1000 pairs of a mark and a tuple of states, or with one more."""
    edges = [(at, "a", "", (at + 1) % 8) for at in range(8)]
    if more:
        edges += [(at, "b", "", at) for at in range(8)] + [(7, "b", "", 6)]
        return Rewriter("ab", {7: ""}, tuple(edges), {0: "", 1: ""})
    edges += [(at, "b", "", after) for at, after in enumerate((0, 2, 2, 3, 2, 5, 6, 4))]
    return Rewriter("ab", {1: ""}, tuple(edges), {5: "", 7: ""})


def unlike_too(rewriter, first, second):
    """Whether two paths that read one text lead to states of these, and write unlike words for a letter."""
    row = [(p, q, False) for p in rewriter.starts for q in rewriter.starts]
    seen = set(row)
    for p, q, flag in row:
        for one in rewriter.edges:
            for two in rewriter.edges:
                after = (one[3], two[3], flag or one[2] != two[2])
                if one[0] == p and two[0] == q and one[1] == two[1] and after not in seen:
                    seen.add(after)
                    row.append(after)
    return any(flag and p in first and q in second for p, q, flag in row)


def is_placed_too(rewriter):
    """Whether starts and ends write nothing and no text has two placed results."""
    if any([*rewriter.starts.values(), *rewriter.ends.values()]):
        return False
    return not unlike_too(rewriter, rewriter.ends, rewriter.ends)


def alike_too(rewriter, rest, other):
    """Whether two rests are alike in place."""
    first, second = left_by_runs(rewriter, rest), left_by_runs(rewriter, other)
    return not parting_texts(rewriter, first, second) and not unlike_too(rewriter, first, second)


def placed_too(rewriter, text):
    """The set of the placed results of a text, from all complete paths."""
    return {tuple(edge[2] for edge in row) for _, row in all_trails(raw_of(rewriter), text)}


def random_placed(seed, many, **told):
    """Placed rewriters: with one edge for each state and letter from one side, drawn, or with words for drawn marks."""
    made = [Rewriter(r.letters, {p: "" for p in r.starts}, r.edges, {p: "" for p in r.ends}) for r in random_singles(seed, many, most=1, **told)]
    drawn = [Rewriter(r.letters, {p: "" for p in r.starts}, r.edges, {p: "" for p in r.ends})
             for r in random_rewriters(seed + 1, 12 * many, states=4, edges=8, most=1, letters=told.get("letters", "ab"))]
    made += [r for r in drawn if is_placed_too(r) and len(r) > 2][:many]
    return made + [of_marks(marks) for marks in random_marks(seed + 2, many, most=4, letters=told.get("letters", "ab"))]


def of_marks(marks):
    """A rewriter with a result for each text, that tells the mark of the rest behind each letter, or a part of it."""
    edges = [(marks.steps[(letter, mark)], letter, ("x", "y", letter)[mark % 3], mark) for letter in marks.letters for mark in marks]
    return Rewriter(marks.letters, {mark: "" for mark in marks}, tuple(edges), {0: ""})


def is_paper_too(rewriter, rest, other, value):
    """Whether the value is a place paper, as [15.2] tells it."""
    first, second = left_by_runs(rewriter, rest), left_by_runs(rewriter, other)
    if type(value) is not tuple or len(value) not in (2, 3):
        return False
    if len(value) == 3:
        kind, pairs, reached = value
        if type(kind) is not str or kind != "alike" or type(pairs) is not tuple or type(reached) is not tuple:
            return False
        sets = [part for pair in pairs for part in (pair if type(pair) is tuple and len(pair) == 2 else [None])]
        if not all(type(part) is tuple and all(is_whole(p) and p in rewriter.states for p in part) and list(part) == sorted(set(part)) for part in sets):
            return False
        if not all(type(pair) is tuple and len(pair) == 2 and all(is_whole(p) for p in pair) for pair in reached):
            return False
        steps = reached_steps_too(rewriter)
        goals = {(p, q) for p in first for q in second}
        wanted = sorted(pair for pair in steps if led_to_too(steps, [pair]) & goals)
        unlike = any(one[2] != two[2] and after in wanted for pair in wanted for _, one, two, after in steps[pair])
        return is_right(rewriter, rest, other, ("same", pairs)) and list(reached) == wanted and not unlike
    kind, shown = value
    if type(kind) is not str or kind != "apart" or type(shown) is not tuple or not shown or type(shown[0]) is not str:
        return False
    if shown[0] == "text":
        return len(shown) == 2 and is_string_of_letters(shown[1]) and is_right(rewriter, rest, other, shown)
    if shown[0] != "place" or len(shown) != 5:
        return False
    _, text, index, path, against = shown
    if not is_string_of_letters(text) or not is_whole(index) or not 0 <= index < len(text):
        return False
    for trail, states in ((path, first), (against, second)):
        if type(trail) is not tuple or len(trail) != 2 or type(trail[1]) is not tuple or not is_whole(trail[0]) or trail[0] not in rewriter.starts:
            return False
        if not all(type(edge) is tuple and len(edge) == 4 and is_whole(edge[0]) and is_whole(edge[3]) and edge in rewriter.edges for edge in trail[1]):
            return False
        row = [trail[0]] + [edge[3] for edge in trail[1]]
        if row[:-1] != [edge[0] for edge in trail[1]] or "".join(edge[1] for edge in trail[1]) != text or row[-1] not in states:
            return False
    return path[1][index][2] != against[1][index][2]


class TestPlaced(Refusals, unittest.TestCase):
    def test_examples(self):
        self.assertEqual([placed(ADD, "aab"), place_machine(ADD) == ADDER, letters_ahead(ADD), is_ahead_paper(ADD, ("never", "b", "", "a"))],
                         [('a', 'b', 'a'), True, None, True])
        self.assertEqual([is_placed(SWAP), place_marks(LAST) == least_marks(LAST), ahead_paper(PLAIN), place_paper(ADD, "b", "bb")[0]],
                         [False, True, ('ahead', 0, None, None), 'alike'])

    def test_against_all_paths(self):
        counts = {}
        drawn = [Rewriter(r.letters, {p: "" for p in r.starts}, r.edges, {p: "" for p in r.ends}) for r in random_rewriters(400, 200, states=3, edges=7, most=1)]
        for rewriter in drawn + random_placed(401, 20) + random_rewriters(402, 60) + [LAST, ADD, SWAP, DROP, TURNS, TWICE, CHOICE, EMPTY, PLAIN]:
            wanted = is_placed_too(rewriter)
            self.assertIs(is_placed(rewriter), wanted)
            results = {text: placed_too(rewriter, text) for text in all_texts(rewriter.letters, 4)[:40]}
            if not wanted:
                self.refused(InvalidOperation, placed, rewriter, "")
            for text, rows in results.items():
                if wanted:
                    self.assertLessEqual(len(rows), 1)
                    self.assertEqual(placed(rewriter, text), rows.pop() if rows else None)
            silent = not any([*rewriter.starts.values(), *rewriter.ends.values()])
            counts[(wanted, silent)] = counts.get((wanted, silent), 0) + 1
        self.assertGreater(min(counts[(True, True)], counts[(False, True)], counts[(False, False)]), 30)

    def test_starts_and_ends_that_write(self):
        for starts, ends in (({0: "a"}, {0: ""}), ({0: ""}, {0: "b"}), ({0: "", 1: "a"}, {0: ""}), ({0: ""}, {0: "", 1: "a"})):
            self.assertFalse(is_placed(Rewriter("ab", starts, ((0, "a", "a", 1), (1, "b", "b", 0)), ends)))
        self.assertTrue(is_placed(Rewriter("ab", {0: "", 2: "a"}, ((0, "a", "a", 1), (1, "b", "b", 0)), {0: "", 3: "b"})))

    def test_two_placed_results_with_one_result(self):
        two = Rewriter("ab", {0: ""}, ((0, "a", "x", 1), (0, "a", "", 2), (1, "b", "", 3), (2, "b", "x", 3)), {3: ""})
        self.assertEqual(two("ab"), ("x",))
        self.assertEqual(placed_too(two, "ab"), {("x", ""), ("", "x")})
        self.assertFalse(is_placed(two))
        for call in (place_marks, place_machine, letters_ahead, ahead_paper):
            self.refused(InvalidOperation, call, two)
        # Two paths with one placed result are let.
        self.assertTrue(is_placed(Rewriter("ab", {0: ""}, ((0, "a", "x", 1), (0, "a", "x", 2), (1, "b", "", 3), (2, "b", "", 3)), {3: ""})))

    def test_long_texts(self):
        self.assertEqual(placed(ADD, "b" * 60), ("a",) * 60)
        self.assertEqual(placed(LAST, "ab" * 30), ("aa", "bb") * 30)
        self.assertEqual([placed(PLAIN, ""), placed(EMPTY, ""), placed(EMPTY, "ab")], [(), None, None])


class TestPapers(Refusals, unittest.TestCase):
    def rewriters(self, seed):
        return random_placed(seed, 24, states=4) + random_placed(seed + 7, 8, letters="a") + random_placed(seed + 9, 8, letters="abc") + [LAST, ADD, PLAIN, EMPTY, looking(1)]

    def test_all_pairs_of_short_rests(self):
        kinds = []
        for rewriter in self.rewriters(410):
            rests = all_texts(rewriter.letters, 3)[:7]
            marks = place_marks(rewriter)
            for rest in rests:
                for other in rests:
                    paper = place_paper(rewriter, rest, other)
                    alike = alike_too(rewriter, rest, other)
                    self.assertEqual(paper[0], "alike" if alike else "apart")
                    self.assertTrue(is_paper_too(rewriter, rest, other, paper))
                    self.assertIs(is_place_paper(rewriter, rest, other, paper), True)
                    self.assertIs(marks(rest) == marks(other), alike)
                    kinds.append("alike" if alike else paper[1][0])
        for kind in ("alike", "text", "place"):
            self.assertGreater(kinds.count(kind), 200, kind)

    def test_alike_rests_against_texts(self):
        for rewriter in self.rewriters(415):
            rests = all_texts(rewriter.letters, 2)[:4]
            for rest, other in itertools.combinations(rests, 2):
                if alike_too(rewriter, rest, other):
                    for text in all_texts(rewriter.letters, 3):
                        one, two = placed(rewriter, text + rest), placed(rewriter, text + other)
                        self.assertEqual(one and one[:len(text)], two and two[:len(text)])
                        self.assertEqual(one is None, two is None)

    def bent(self, paper, rewriter):
        """Papers that are nearly this one, right or not."""
        if paper[0] == "alike":
            _, pairs, reached = paper
            rows = [("alike", pairs, more) for more in (
                reached[1:], reached[:-1], reached[::-1], reached + reached[-1:], list(reached), tuple(list(pair) for pair in reached), (), None,
                tuple(sorted(reached + ((0, 99),))), tuple(sorted(set(reached) | {(p, q) for p in rewriter.states for q in rewriter.states})),
                tuple((bool(p) if p < 2 else p, q) for p, q in reached), tuple((p, bool(q) if q < 2 else q) for p, q in reached))]
            rows += [("alike", more, reached) for more in (pairs[1:], pairs[::-1], list(pairs), pairs + pairs[-1:], (), tuple(sorted(set(pairs) | {((), ())})),
                                                           tuple(sorted(set(pairs) | {(first, first) for first, _ in pairs})))]
            return rows + [list(paper), paper[:2], paper + ((),), ("apart", pairs, reached), ("Alike", pairs, reached), ("apart", ("text", "")), ("apart", ("text", "a"))]
        kind, *shown = paper[1]
        rows = [["apart", paper[1]], ("alike", paper[1]), ("apart", list(paper[1])), ("apart",) + paper[1], ("apart", paper[1], ()), paper[1], ("apart", paper[1] + ((),)),
                ("apart", (None, *shown)), ("apart", ("alike", *shown))]
        if kind == "text":
            return rows + [("apart", ("text", shown[0] + more)) for more in ("a", "z", " ", "b")] + [("apart", ("text", more)) for more in ("", None, (shown[0],))]
        text, index, path, against = shown
        changes = [(text, more, path, against) for more in (*range(-1, len(text) + 1), bool(index), None, str(index), 10 ** 30)]
        changes += [(more, index, path, against) for more in ("", text + "a", text[:-1], "z" * len(text), None)]
        changes += [(text, index, against, path), (text, index, path, path), (text, index, list(path), against), (text, index, path, (against[0], list(against[1]))),
                    (text, index, (path[0], path[1][:-1]), against), (text, index, (bool(path[0]), path[1]), against), (text, index, path, (99, against[1])),
                    (text, index, path, None), (text, index, (path[0], tuple(list(edge) for edge in path[1])), against), (text, index, path),
                    (text, index, (path[0], tuple((bool(e[0]) if e[0] < 2 else e[0],) + e[1:] for e in path[1])), against)]
        return rows + [("apart", ("place", *change)) for change in changes]

    def test_bent_papers(self):
        counts = [0, 0]
        for rewriter in self.rewriters(420):
            rests = all_texts(rewriter.letters, 2)[:4]
            for rest in rests:
                for other in rests:
                    paper = place_paper(rewriter, rest, other)
                    for value in self.bent(paper, rewriter) + [place_paper(rewriter, other, rest)]:
                        wanted = is_paper_too(rewriter, rest, other, value)
                        self.assertIs(is_place_paper(rewriter, rest, other, value), wanted, value)
                        counts[wanted] += 1
        self.assertGreater(min(counts), 300)

    def test_further_pairs_that_keep_what_is_asked(self):
        paper = place_paper(ADD, "b", "bb")
        self.assertEqual(paper, ("alike", (((0,), (0,)), ((1,), (1,))), ((0, 0), (1, 1))))
        for more in (((), ()), ((0, 1), (0,)), ((0,), (1,))):
            self.assertTrue(is_place_paper(ADD, "b", "bb", ("alike", tuple(sorted(paper[1] + (more,))), paper[2])))
        self.assertFalse(is_place_paper(ADD, "b", "bb", ("alike", tuple(sorted(paper[1] + (((), (0,)),))), paper[2])))

    def test_reached_pairs_with_unlike_words(self):
        # The pair of the states 1 and 2 is reached by unlike words, and leads to both rests.
        rewriter = Rewriter("ab", {0: ""}, ((0, "a", "x", 1), (0, "a", "y", 2), (1, "a", "", 3), (2, "b", "", 3)), {3: ""})
        pairs = (((), ()), ((0,), (0,)), ((1,), (2,)))
        self.assertFalse(is_place_paper(rewriter, "a", "b", ("alike", pairs, ((0, 0), (1, 2)))))
        self.assertFalse(is_place_paper(rewriter, "a", "b", ("alike", pairs, ((0, 0),))))
        self.assertFalse(is_place_paper(rewriter, "a", "b", ("alike", pairs, ((1, 2),))))
        right = ("apart", ("place", "a", 0, (0, ((0, "a", "x", 1),)), (0, ((0, "a", "y", 2),))))
        self.assertEqual(place_paper(rewriter, "a", "b"), right)
        self.assertTrue(is_place_paper(rewriter, "a", "b", right))
        self.assertFalse(is_place_paper(rewriter, "b", "a", right))

    def test_long_ones(self):
        path = (0, ((0, "b", "b", 0),) * 300 + ((0, "a", "b", 1),))
        other = (0, ((0, "b", "b", 0),) * 300 + ((0, "a", "a", 0),))
        self.assertTrue(is_place_paper(ADD, "b", "a", ("apart", ("place", "b" * 300 + "a", 300, path, other))))
        self.assertFalse(is_place_paper(ADD, "b", "a", ("apart", ("place", "b" * 300 + "a", 299, path, other))))
        self.assertEqual(place_paper(LAST, "a" * 60, "ba" * 30)[0], "alike")

    def test_any_value(self):
        for value in any_values():
            for paper in (value, ("apart", value), ("apart", ("text", value)), ("apart", ("place", value, 0, (0, ()), (0, ()))), ("alike", value, value),
                          ("apart", ("place", "a", 0, value, value)), ("apart", ("place", "a", value, (0, ()), (2, ()))), ("alike", (((0, 3), (0, 1)),), value)):
                self.assertIs(is_place_paper(LAST, "", "a", paper), False, paper)


class TestMarks(Refusals, unittest.TestCase):
    def rewriters(self, seed):
        return random_placed(seed, 24, states=5) + random_placed(seed + 3, 10, letters="abc") + [LAST, ADD, PLAIN, EMPTY, looking(1), looking(2)]

    def test_marks(self):
        finer = 0
        for rewriter in self.rewriters(430):
            marks = place_marks(rewriter)
            self.assertIs(type(marks), Marks)
            self.assertEqual((marks.letters, marks.met()), (rewriter.letters, marks))
            rests = all_texts(rewriter.letters, 3)[:12]
            for rest in rests:
                self.assertIs(marks(rest) in marks.good, has_result_too(rewriter, rest))
            firsts = [marks.first_rest(mark) for mark in marks]
            for one, other in itertools.combinations(firsts, 2):
                self.assertFalse(alike_too(rewriter, one, other))
            for states in rest_sets(rewriter):
                near = [rest for rest in firsts if not parting_texts(rewriter, left_by_runs(rewriter, rest), states)
                        and not unlike_too(rewriter, left_by_runs(rewriter, rest), states)]
                self.assertEqual(len(near), 1)
            # Rests of one mark in place are alike, since their results differ by nothing ahead.
            self.assertIsNotNone(map_of(marks, least_marks(rewriter)))
            finer += len(marks) > len(least_marks(rewriter))
        self.assertGreater(finer, 5)

    def test_machine(self):
        merged = 0
        for rewriter in self.rewriters(440):
            machine = place_machine(rewriter)
            marks = place_marks(rewriter)
            self.assertIs(type(machine), TwoPass)
            self.assertEqual((machine.marks, machine.numbered()), (marks, machine))
            self.assertEqual({word for word, _ in machine.begins.values()} | set(machine.ends.values()) - {""}, {""} if machine.begins else set())
            self.assertEqual(same_states(machine), [])
            for text in all_texts(rewriter.letters, 4)[:60]:
                words = [word for word, _ in machine.walk(text)]
                rows = placed_too(rewriter, text)
                self.assertEqual(tuple(words[1:-1]) if words else None, rows.pop() if rows else None)
            self.assertTrue(does(machine, rewriter))
            merged += len(machine) < self.pairs_met(rewriter, marks)
        self.assertGreater(merged, 5)

    def pairs_met(self, rewriter, marks):
        """How many pairs of a mark and of a tuple of states there are [15.3]."""
        sets = [left_by_runs(rewriter, "")]
        for states in sets:
            sets += [after for letter in rewriter.letters for after in [sources_too(rewriter, states, letter)] if after not in sets]
        # Each set of states that a text leads to, beside each set of a mark from which rests lead to ends.
        lefts = {}
        row = [(0, left_by_runs(rewriter, ""))]
        for mark, states in row:
            lefts.setdefault(mark, set()).update(states)
            row += [after for letter in rewriter.letters for after in [(marks.steps[(letter, mark)], sources_too(rewriter, states, letter))] if after not in row]
        reached = [frozenset(rewriter.starts)]
        for states in reached:
            reached += [after for letter in rewriter.letters for after in
                        [frozenset(e[3] for e in rewriter.edges if e[0] in states and e[1] == letter)] if after not in reached]
        return len({(mark, states & frozenset(lefts[mark])) for mark in marks for states in reached if states & lefts[mark]})

    def test_of_equal_places(self):
        """Other forms of a rewriter have the same machine in place."""
        chance = random.Random(445)
        for rewriter in self.rewriters(446):
            other = rewriter.renumbered(dict(zip(rewriter.states, chance.sample(range(12), len(rewriter.states)))))
            self.assertEqual(place_machine(other), place_machine(rewriter))
            if len(rewriter.states) <= 6 and len(rewriter) <= 32:
                self.assertEqual(place_machine(rewriter | other), place_machine(rewriter))

    def test_without_states(self):
        self.assertEqual(place_marks(EMPTY), Marks("ab", {("a", 0): 0, ("b", 0): 0}, ()))
        self.assertEqual(place_machine(EMPTY), TwoPass(place_marks(EMPTY), begins={}, steps={}, ends={}))
        self.assertEqual([letters_ahead(EMPTY), ahead_paper(EMPTY), is_placed(EMPTY)], [0, ("ahead", 0, None, None), True])
        self.assertEqual(place_paper(EMPTY, "a", "bb"), ("alike", (((), ()),), ()))

    def test_more_than_1000_pairs(self):
        just, more = many_pairs(False), many_pairs(True)
        self.assertEqual([self.pairs_met(rewriter, place_marks(rewriter)) for rewriter in (just, more)], [1000, 1001])
        self.assertEqual(self.refused(TooMany, place_machine, more).limit, 1000)
        machine = place_machine(just)
        for text in all_texts("ab", 7):
            self.assertEqual(machine(text), result_too(just, text))


class TestAhead(Refusals, unittest.TestCase):
    def ahead_of(self, marks, most=8):
        """How many letters tell the mark, found by all texts of this length, or None."""
        for many in range(most):
            maps = []
            for text in itertools.product(marks.letters, repeat=many):
                images = set(marks)
                for letter in reversed(text):
                    images = {marks.steps[(letter, mark)] for mark in images}
                maps.append(images)
            if all(len(images) == 1 for images in maps):
                return many
        return None

    def is_right(self, marks, value):
        """Whether a paper with values of the right kinds is right."""
        kind, shown, one, other = value
        if kind == "ahead":
            if shown == 0:
                return one is None and other is None and len(marks) == 1
            if one is None or other is None or self.ahead_of(marks) != shown:
                return False
            agree = one == other or min(len(one), len(other)) >= shown - 1 and one[:shown - 1] == other[:shown - 1]
            return agree and mark_too(marks, one) != mark_too(marks, other)
        if one is None or other is None:
            return False
        return (shown != "" and mark_too(marks, one) != mark_too(marks, other) and mark_too(marks, shown + one) == mark_too(marks, one)
                and mark_too(marks, shown + other) == mark_too(marks, other))

    def rewriters(self, seed):
        """Placed rewriters that look ahead as their marks tell, which are drawn."""
        made = random_placed(seed, 12, states=4) + [LAST, ADD, PLAIN, EMPTY, looking(1), looking(2)]
        return made + [of_marks(marks) for marks in random_marks(seed + 5, 60, most=4, letters="ab")]

    def test_examples_of_all_numbers(self):
        self.assertEqual([letters_ahead(looking(many)) for many in (0, 1, 2)], [0, 1, 2])
        end = Rewriter("ab", {0: "", 1: ""}, ((0, "a", "a", 0), (0, "b", "b", 0), (0, "a", "", 1), (0, "b", "", 1)), {1: ""})
        self.assertTrue(is_placed(end))
        # That nothing follows is seen by one letter; LAST and ADD look to the end.
        self.assertEqual([letters_ahead(rewriter) for rewriter in (end, LAST, ADD, PLAIN)], [1, None, None, 0])

    def test_against_all_texts(self):
        told = []
        for rewriter in self.rewriters(450):
            marks = place_marks(rewriter)
            wanted = self.ahead_of(marks)
            told.append(wanted)
            self.assertEqual(letters_ahead(rewriter), wanted)
            paper = ahead_paper(rewriter)
            self.assertEqual(paper[0], "never" if wanted is None else "ahead")
            self.assertEqual(len(paper), 4)
            self.assertTrue(self.is_right(marks, paper))
            self.assertIs(is_ahead_paper(rewriter, paper), True)
        self.assertGreaterEqual(len([many for many in set(told) if told.count(many) > 2]), 4)

    def test_other_papers(self):
        counts = [0, 0]
        chance = random.Random(465)
        for rewriter in self.rewriters(460):
            marks = place_marks(rewriter)
            rests = all_texts("ab", 3)[:11] + [None]
            shown = [("ahead", many) for many in range(4)] + [("never", text) for text in ("", "a", "ab", "bb")]
            for _ in range(80):
                value = chance.choice(shown) + (chance.choice(rests), chance.choice(rests))
                wanted = self.is_right(marks, value)
                counts[wanted] += 1
                self.assertIs(is_ahead_paper(rewriter, value), wanted, value)
        self.assertGreater(min(counts), 100)

    def test_kinds_of_values(self):
        paper = ahead_paper(looking(1))
        self.assertEqual(paper[:2], ("ahead", 1))
        for wrong in (list(paper), paper[:3], paper + (None,), ("ahead", True) + paper[2:], ("Ahead",) + paper[1:], ("never",) + paper[1:], ("ahead", "1") + paper[2:],
                      ("ahead", -1) + paper[2:], ("ahead", 10 ** 39) + paper[2:], ("ahead", 0) + paper[2:], ("ahead", 2) + paper[2:], (None,) + paper[1:],
                      paper[:2] + (paper[2] + "z", paper[3]), paper[:2] + ("z", paper[3]), paper[:2] + (None, paper[3]), paper[:2] + ((), paper[3])):
            self.assertIs(is_ahead_paper(looking(1), wrong), False, wrong)
        zero = ("ahead", 0, None, None)
        self.assertTrue(is_ahead_paper(PLAIN, zero))
        for wrong in (("ahead", False, None, None), ("ahead", 0, "", None), ("ahead", 0, None, ""), ("ahead", 0, "", ""), ("ahead", 1, "", "a"), ("ahead", 1, None, None),
                      ("never", None, None, None), ("ahead", None, None, None), list(zero), ("ahead", "", None, None)):
            self.assertIs(is_ahead_paper(PLAIN, wrong), False, wrong)
        self.assertFalse(is_ahead_paper(looking(1), zero))
        for value in any_values():
            for rewriter in (PLAIN, ADD, looking(1)):
                for paper in (value, ("ahead", value, None, None), ("ahead", value, "", "a"), ("never", value, "", "a"), ("ahead", 1, value, "a"), ("never", "b", "", value)):
                    wanted = False
                    if type(paper) is tuple and len(paper) == 4 and rewriter == PLAIN:
                        wanted = is_whole(paper[1]) and paper == zero
                    elif type(paper) is tuple and len(paper) == 4 and all(is_string_of_letters(part) and not part.strip("ab") for part in paper[2:]):
                        plain = is_string_of_letters(paper[1]) and not paper[1].strip("ab") if paper[0] == "never" else is_whole(paper[1])
                        wanted = plain and self.is_right(place_marks(rewriter), paper)
                    self.assertIs(is_ahead_paper(rewriter, paper), wanted, paper)

    def test_long_rests(self):
        self.assertTrue(is_ahead_paper(ADD, ("never", "b" * 500, "b" * 400, "ab" * 300)))
        self.assertFalse(is_ahead_paper(ADD, ("never", "b" * 499 + "a", "b" * 400, "ab" * 300)))
        self.assertTrue(is_ahead_paper(looking(1), ("ahead", 1, "a" * 300, "b" * 300)))


class TestRefusals(Refusals, unittest.TestCase):
    ALONE = ((place_marks, ()), (place_machine, ()), (letters_ahead, ()), (ahead_paper, ()), (is_ahead_paper, (None,)))
    RESTS = ((place_paper, ()), (is_place_paper, (None,)))

    def test_rewriters(self):
        for value in any_values():
            if not isinstance(value, Rewriter):
                self.refused(InvalidRewriter, is_placed, value)
                self.refused(InvalidRewriter, placed, value, None)
                for call, last in self.ALONE:
                    self.refused(InvalidRewriter, call, value, *last)
                for call, last in self.RESTS:
                    self.refused(InvalidRewriter, call, value, None, None, *last)

    def test_texts_and_rests(self):
        for value in any_values():
            wanted = None
            if not is_string_of_letters(value) or len(value) > 60:
                wanted = InvalidText
            elif value.strip("ab"):
                wanted = InvalidOperation
            self.same_as_told(wanted, placed, ADD, value)
            # What is no text is told ahead of a rewriter that is not placed.
            self.same_as_told(wanted or InvalidOperation, placed, SWAP, value)
            for call, last in self.RESTS:
                self.same_as_told(wanted, call, ADD, value, "", *last)
                self.same_as_told(wanted, call, ADD, "", value, *last)
                self.same_as_told(wanted or InvalidText, call, ADD, value, None, *last)
                self.same_as_told(wanted or InvalidOperation, call, TWICE, "a", value, *last)

    def test_not_placed_then_too_many_sets(self):
        more, exactly = many_sets(more=True), many_sets()
        self.assertTrue(is_placed(more))
        self.assertEqual([placed(more, "d"), placed(more, "a")], [("",), None])
        bent = Rewriter("abcd", more.starts, more.edges + ((0, "d", "a", 0),), more.ends)
        for call, last in self.ALONE + tuple((call, ("a", "") + last) for call, last in self.RESTS):
            for rewriter in (SWAP, TWICE, CHOICE, DROP.with_edge((0, "a", "x", 1)), bent):
                self.refused(InvalidOperation, call, rewriter, *last)
            self.assertEqual(self.refused(TooMany, call, more, *last).limit, 256)
            if call is place_machine:
                self.assertEqual(self.refused(TooMany, call, exactly, *last).limit, 1000)
            else:
                call(exactly, *last)
        self.refused(InvalidText, place_paper, more, "a", None)
        self.refused(InvalidText, placed, bent, None)
        self.refused(InvalidOperation, placed, bent, "")
        self.assertIs(is_placed(bent), False)


if __name__ == "__main__":
    unittest.main()
