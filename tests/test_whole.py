"""What the document says of the whole program: [0.1], [0.2], [0.19], [0.20]."""
import random
import unittest

from fewmarks.base.rewriters import Rewriter
from fewmarks.books.books import Book, idle_rules
from fewmarks.change.operations import behind, chosen, restricted, turned
from fewmarks.desk.editor import Editor
from fewmarks.errors import NeedsMarks, NotSingle, TooMany
from fewmarks.machines.early import early, is_early
from fewmarks.machines.equal import have_equal_results, is_equality_paper, equality_paper
from fewmarks.machines.machines import TwoPass, does
from fewmarks.machines.marks import Marks, class_of, least_marks, map_of
from fewmarks.pairs.pairs import live_pairs
from fewmarks.pairs.single import is_single
from fewmarks.passes.onepass import is_once_paper, is_one_pass, once_paper, one_pass
from fewmarks.passes.places import is_placed, letters_ahead, place_machine, place_marks, placed
from fewmarks.rests.forks import fork, is_fork, wild_pairs
from fewmarks.rests.papers import is_rest_paper, rest_paper
from fewmarks.rests.rests import left
from fewmarks.text.formats import (format_book, format_machine, format_marks, format_rewriter, format_writer, parse_book, parse_machine, parse_marks,
                                   parse_rewriter, parse_writer)
from fewmarks.text.shell import Shell
from helpers import ADD, DROP, EMPTY, LAST, SWAP, TURNS, Refusals, all_texts, any_values, many_sets, random_singles
from second_ways import result_too
from test_books import ANYTHING, BOOK, NEXT_B, placed_too, random_books
from test_early import LATE, dropping
from test_onepass import random_all_parts, writer_of
from test_papers import some_singles
from test_places import looking, random_placed

PLAIN = Rewriter.copying("ab")


def singles(seed):
    return some_singles(seed)[:50] + random_placed(seed + 5, 10) + [LAST, ADD, SWAP, DROP, TURNS, EMPTY, LATE, PLAIN, looking(2), dropping(2)]


class TestAgreement(Refusals, unittest.TestCase):
    """All ways to run a rewriter, or a book, write the same."""

    def edited_to(self, machine, text, chance):
        """An editor that has come to a text by several steps, some of which were undone."""
        editor = Editor(machine)
        for at, letter in enumerate(text):
            editor.make(("put", chance.randint(0, at), letter))
        if text:
            editor.make(("cut", 0, len(text)), ("put", 0, text[1:] or text), ("cut", 0, len(text[1:] or text)))
            editor.make(("put", 0, text[-1:]), ("put", 0, text[:-1]) if text[:-1] else ("use", machine))
            editor.undo(many=2)
            editor.redo(many=2)
        return editor

    def test_rewriters(self):
        chance = random.Random(1100)
        counts = {"one": 0, "place": 0}
        for rewriter in singles(1101):
            machine = early(rewriter)
            self.assertEqual((machine.marks, is_early(machine, rewriter), does(machine, rewriter)), (least_marks(rewriter), True, True))
            runs = [machine, parse_machine(format_machine(machine)), lambda text: (parse_rewriter(format_rewriter(rewriter))(text) or (None,))[0],
                    lambda text: self.edited_to(machine, text, chance).result]
            if is_one_pass(rewriter):
                writer = one_pass(rewriter)
                runs += [writer, parse_writer(format_writer(writer))]
                counts["one"] += 1
            if is_placed(rewriter):
                runs += [place_machine(rewriter), lambda text: None if placed(rewriter, text) is None else "".join(placed(rewriter, text))]
                counts["place"] += 1
            shell = Shell()
            shell.do("rewriter it " + format_rewriter(rewriter).replace("\n", " ; "))
            for text in all_texts(rewriter.letters, 4)[:30]:
                wanted = result_too(rewriter, text)
                self.assertEqual([run(text) for run in runs], [wanted] * len(runs))
                self.assertEqual(shell.do("run it " + (text or "-")), "none" if wanted is None else wanted or "-")
        self.assertGreater(min(counts.values()), 15)

    def test_books(self):
        chance = random.Random(1110)
        for book in random_books(1111, 30) + [BOOK, Book("ab")]:
            machine = book.place_machine()
            runs = [machine, parse_machine(format_machine(machine)), parse_book(format_book(book)), lambda text: self.edited_to(machine, text, chance).result]
            for text in all_texts(book.letters, 4)[:30]:
                self.assertEqual([run(text) for run in runs], ["".join(placed_too(book, text))] * len(runs))
            self.assertEqual(parse_marks(format_marks(book.place_marks())), machine.marks)

    def test_papers_of_what_operations_make(self):
        """For whatever single rewriter exactly one kind of paper exists, and is accepted."""
        made = []
        some = [LAST, ADD, SWAP, PLAIN, *random_singles(1120, 4, states=3, most=1)]
        for one in some:
            made += [turned(one), restricted(one, Marks("ab", {("a", 0): 1, ("b", 0): 0, ("a", 1): 0, ("b", 1): 1}, (1,)))]
            made += [chosen(one, one)] if len(one.states) <= 6 else []
            for other in some:
                try:
                    made.append(behind(one, other))
                except TooMany:
                    pass
        self.assertGreater(len(made), 40)
        for rewriter in made:
            self.assertTrue(is_single(rewriter))
            marks = least_marks(rewriter)
            for rest, other in (("", "a"), ("a", "b"), ("ab", "b")):
                paper = rest_paper(rewriter, rest, other)
                self.assertTrue(is_rest_paper(rewriter, rest, other, paper))
                self.assertEqual(paper[0] == "alike", class_of(rewriter, rest) == class_of(rewriter, other))
                if paper[0] == "apart" and paper[1][0] == "fork":
                    self.assertTrue(is_fork(rewriter, left(rewriter, rest), left(rewriter, other), paper[1][1]))
            paper = once_paper(rewriter)
            self.assertTrue(is_once_paper(rewriter, paper))
            self.assertEqual(paper[0] == "once", fork(rewriter, rewriter.states, rewriter.states) is None)
            self.assertEqual(early(rewriter).marks, marks)
            self.assertTrue(is_equality_paper(rewriter, rewriter, equality_paper(rewriter, rewriter)))

    def test_one_form_of_books_and_writers(self):
        for book in random_books(1130, 20, letters="ab"):
            machine = book.place_machine()
            if len(machine) <= 12 and len(machine.steps) <= 64:
                rewriter = machine.rewriter()
                self.assertTrue(does(early(rewriter), rewriter))
                # The marks in place of a book do for its results, too.
                self.assertIsNotNone(map_of(book.place_marks(), least_marks(rewriter)))
        for parts in random_all_parts(1131, 25, most=5, long=2):
            rewriter = writer_of(parts).rewriter()
            self.assertTrue(is_one_pass(rewriter))
            self.assertTrue(have_equal_results(rewriter, early(rewriter).rewriter()) if len(early(rewriter)) <= 12 else True)


class TestWhatIsNotTrue(Refusals, unittest.TestCase):
    """For each sentence of [0.20] that functions can tell, a case against it."""

    def test_more_marks_and_fewer_states(self):
        counted = Marks("ab", {(letter, mark): min(mark + 1, 3) for letter in "ab" for mark in range(4)}, (0, 1, 2, 3))
        self.assertEqual([len(early(dropping(3))), len(least_marks(dropping(3)))], [15, 1])
        self.assertLess(len(early(dropping(3), marks=counted)), 15)

    def test_one_mark_for_rests_that_lead_unlike_states_to_ends(self):
        self.assertNotEqual(left(TURNS, "a"), left(TURNS, "b"))
        self.assertEqual(class_of(TURNS, "a"), class_of(TURNS, "b"))

    def test_more_marks_than_states(self):
        self.assertEqual([len(least_marks(many_sets())), len(many_sets().states)], [256, 8])

    def test_the_other_side(self):
        self.assertEqual([len(least_marks(LAST)), len(least_marks(~LAST))], [3, 1])
        self.assertEqual([is_one_pass(~LAST), is_one_pass(LAST)], [True, False])
        self.refused(NeedsMarks, one_pass, LAST)

    def test_one_pass_and_two_marks(self):
        even = Rewriter("a", {0: ""}, ((0, "a", "a", 1), (1, "a", "a", 0)), {0: ""})
        self.assertEqual([is_one_pass(even), len(least_marks(even))], [True, 2])

    def test_one_mark_and_something_is_kept_back(self):
        self.assertEqual([len(least_marks(SWAP)), "".join(sorted(early(SWAP).ends.values()))], [1, "ab"])

    def test_one_letter_and_two_marks(self):
        edges = [(state, letter, letter, state) for state in (1, 2) for letter in "ab"]
        edges += [(0, "a", "a", 1), (0, "a", "b", 2), (0, "b", "b", 1), (0, "b", "b", 2), (1, "a", "a", 3), (2, "b", "b", 3)]
        first = Rewriter("ab", {0: ""}, tuple(edges), {3: ""})
        self.assertTrue(is_single(first))
        for text in all_texts("ab", 6):
            word = result_too(first, text)
            if word is not None:
                self.assertLessEqual(sum(one != other for one, other in zip(text, word)), 1)
        self.assertNotEqual(class_of(first, "aa"), class_of(first, "ab"))

    def test_more_marks_behind_one_another_than_pairs(self):
        words = {0: "abab", 1: "abba"}
        edges = [(2, "a", "a", 0), (2, "b", "b", 1), (2, "c", "a", 0), (2, "d", "b", 0)]
        edges += [(state, letter, words[state][at], state) for state in (0, 1) for at, letter in enumerate("abcd")]
        one = Rewriter("abcd", {2: ""}, tuple(edges), {0: "", 1: "", 2: ""})
        self.assertEqual([len(least_marks(rewriter)) for rewriter in (one, LAST, one >> LAST)], [1, 3, 5])

    def test_books_with_the_same_patterns_for_what_comes(self):
        one, other = Book("ab", ("a", ANYTHING, NEXT_B, "x")), Book("ab", ("a", ANYTHING, NEXT_B, "a"))
        self.assertEqual([len(one.place_marks()), len(other.place_marks())], [2, 1])

    def test_rules_one_by_one_and_together(self):
        twice = Book("ab", BOOK[0], BOOK[0])
        self.assertEqual(idle_rules(twice), (0, 1))
        self.assertNotEqual(twice.place_machine(), Book("ab").place_machine())

    def test_no_fork_leads_to_a_live_pair(self):
        forks = 0
        for rewriter in singles(1140) + some_singles(1141):
            self.assertEqual(set(wild_pairs(rewriter)) & set(live_pairs(rewriter)), set())
            forks += bool(wild_pairs(rewriter))
        self.assertGreater(forks, 20)


class TestConventions(Refusals, unittest.TestCase):
    def test_equal_calls_return_equal_results(self):
        for call, values in ((early, (LAST,)), (one_pass, (DROP,)), (once_paper, (LAST,)), (place_machine, (ADD,)), (rest_paper, (LAST, "a", "b")), (place_marks, (ADD,)),
                             (letters_ahead, (ADD,)), (fork, (LAST, LAST.states, LAST.states))):
            self.assertEqual(call(*values), call(*values))

    def test_only_what_may_be_walked_is_walked(self):
        editor = Editor(early(ADD), "ab")
        for value in (early(ADD), one_pass(DROP), Shell(), editor.trial()):
            with self.assertRaises(TypeError):
                iter(value)
        for value, wanted in ((LAST, list(LAST.edges)), (least_marks(LAST), [0, 1, 2]), (BOOK, list(BOOK.rules)), (editor, ["a", "b"])):
            self.assertEqual(list(value), wanted)

    def test_equal_accepts_every_value(self):
        values = [LAST, least_marks(LAST), early(ADD), one_pass(DROP), BOOK, Editor(early(ADD)), Shell()]
        for one in values:
            for other in values:
                self.assertIs(one == other, one is other)
                self.assertIs(one != other, one is not other)
            for value in any_values():
                if type(value) is not type(one):
                    self.assertIs(one == value, False)
                    self.assertIs(one != value, True)

    def test_keys_of_returned_dicts_ascend(self):
        for rewriter in singles(1150)[:30]:
            machine = early(rewriter)
            tables = [rewriter.starts, rewriter.ends, machine.begins, machine.steps, machine.ends, machine.marks.steps]
            if is_one_pass(rewriter):
                writer = one_pass(rewriter)
                tables += [writer.steps, writer.ends, once_paper(rewriter)[1]]
            for table in tables:
                self.assertEqual(list(table), sorted(table))

    def test_two_results_are_told_with_a_paper(self):
        twice = chosen(LAST, PLAIN)
        for call in (one_pass, once_paper, early, least_marks):
            self.assertEqual(self.refused(NotSingle, call, twice).paper[0], "two")

    def test_machines_of_other_makes_are_mapped_onto_the_least_marks(self):
        for rewriter in singles(1160)[:40]:
            if is_placed(rewriter):
                machine = place_machine(rewriter)
                self.assertIs(type(machine), TwoPass)
                self.assertIsNotNone(map_of(machine.marks, least_marks(rewriter)))


if __name__ == "__main__":
    unittest.main()
