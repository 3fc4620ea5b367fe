"""A shell: [20.1], [0.2], and module fewmarks.text.shell."""
import random
import unittest

from fewmarks.base.rewriters import Rewriter
from fewmarks.books.books import Book, have_equal_places
from fewmarks.errors import InvalidCommand, InvalidOperation, NothingToUndo, NotSingle, TooMany, UnknownName
from fewmarks.machines.early import early
from fewmarks.machines.equal import have_equal_results
from fewmarks.machines.marks import least_marks
from fewmarks.pairs.single import is_single, is_single_paper
from fewmarks.passes.onepass import is_one_pass
from fewmarks.passes.places import ahead_paper
from fewmarks.rests.papers import rest_paper
from fewmarks.text.formats import format_book, format_machine, format_rewriter
from fewmarks.text.shell import Shell
from helpers import ADD, CHOICE, DROP, EMPTY, LAST, SWAP, TURNS, TWICE, Refusals, all_results, all_texts, any_values, many_sets, raw_of
from test_books import ANYTHING, BOOK, book_of, placed_too, random_books
from test_early import dropping
from test_papers import some_singles


def lines_of(value):
    return (format_rewriter if isinstance(value, Rewriter) else format_book)(value).replace("\n", " ; ")


def put(name, value):
    return ("rewriter " if isinstance(value, Rewriter) else "book ") + name + " " + lines_of(value)


def shell_with(**values):
    shell = Shell()
    for name, value in values.items():
        shell.do(put(name, value))
    return shell


def shown(word):
    return word or "-"


class TestShell(Refusals, unittest.TestCase):
    def test_examples(self):
        shell = Shell()
        self.assertEqual([shell.do("rewriter last " + format_rewriter(LAST).replace("\n", " ; ")), shell.do("marks last"), shell.do("rests last a b")], ['ok', '3', 'fork'])
        self.assertEqual(list(shell.do_all(("run last ab", "pass last", "book soft letters ab ; rule a . [b] x", "run soft aab", "ahead soft", "undo", "names"))),
                         ['aabb', 'two', 'ok', 'axb', '1', 'ok', 'last'])

    def test_names_and_show(self):
        shell = Shell()
        self.assertEqual([shell.do("names"), shell.names, len(shell), str(shell), shell.log], ["none", (), 1, "shell with 0 names", ("names",)])
        self.assertEqual([shell.do(put("b", ADD)), shell.do(put("abcdefgh", BOOK)), shell.do(put("a", EMPTY))], ["ok"] * 3)
        self.assertEqual([shell.do("names"), shell.names, str(shell)], ["a abcdefgh b", ("a", "abcdefgh", "b"), "shell with 3 names"])
        self.assertEqual([shell.do("show " + name) for name in ("b", "abcdefgh", "a")], [lines_of(ADD), lines_of(BOOK), "letters ab"])
        self.assertEqual([name in shell for name in ("a", "b", "c", "abcdefgh", "")], [True, True, False, True, False])
        for value in any_values():
            self.assertIs(value in shell, isinstance(value, str) and value in ("a", "b"))
        # A new value takes the place of the one with this name, of whatever kind.
        self.assertEqual([shell.do(put("b", BOOK)), shell.do("show b"), shell.do("drop a"), shell.do("names")], ["ok", lines_of(BOOK), "ok", "abcdefgh b"])
        with self.assertRaises(TypeError):
            iter(shell)

    def test_run(self):
        for rewriter in (LAST, ADD, SWAP, TWICE, EMPTY, TURNS, Rewriter("ab", {0: "x"}, ((0, "a", "", 0), (0, "a", "y", 0)), {0: "", 1: "b"})):
            shell = shell_with(it=rewriter)
            for text in all_texts(rewriter.letters, 3):
                wanted = [shown(word) for word in all_results(raw_of(rewriter), text)]
                self.assertEqual(shell.do("run it " + shown(text)), " ".join(wanted) or "none")
        self.assertEqual([shell_with(d=DROP).do("run d " + text) for text in ("-", "a", "aa")], ["-", "-", "a"])
        for book in random_books(1000, 12) + [BOOK]:
            shell = shell_with(it=book)
            for text in all_texts(book.letters, 3):
                self.assertEqual(shell.do("run it " + shown(text)), shown("".join(placed_too(book, text))))
        self.assertEqual(shell_with(it=Book("a", ("a", ANYTHING, ANYTHING, ""))).do("run it aaa"), "-")
        self.assertEqual(len(shell_with(it=CHOICE).do("run it " + "a" * 9).split(" ")), 512)
        self.assertEqual(self.refused(TooMany, shell_with(it=CHOICE).do, "run it " + "a" * 10).limit, 1000)
        self.assertEqual(shell_with(it=LAST).do("run it " + "a" * 60), "a" * 60)

    def test_answers_against_the_functions(self):
        kinds = []
        for rewriter in some_singles(1010)[:40] + [LAST, ADD, SWAP, TURNS]:
            shell = shell_with(it=rewriter, other=rewriter.renumbered({state: 11 - state for state in rewriter.states}))
            self.assertEqual([shell.do("single it"), shell.do("marks it"), shell.do("pass it")],
                             ["single", str(len(least_marks(rewriter))), "one" if is_one_pass(rewriter) else "two"])
            self.assertEqual(shell.do("machine it"), format_machine(early(rewriter)).replace("\n", " ; "))
            self.assertEqual([shell.do("equal it other"), shell.do("equal it it")], ["equal", "equal"])
            for rest in all_texts(rewriter.letters, 2)[:4]:
                for other in all_texts(rewriter.letters, 2)[:4]:
                    paper = rest_paper(rewriter, rest, other)
                    wanted = "alike" if paper[0] == "alike" else paper[1][0]
                    kinds.append(wanted)
                    self.assertEqual(shell.do(f"rests it {shown(rest)} {shown(other)}"), wanted)
        self.assertEqual(set(kinds), {"alike", "text", "fork"})
        plain = shell_with(one=LAST, two=Rewriter.copying("ab"))
        self.assertEqual([plain.do("equal one two"), have_equal_results(LAST, Rewriter.copying("ab"))], ["unlike", False])

    def test_two_results(self):
        for rewriter in (TWICE, CHOICE, Rewriter("a", {0: "", 1: "x"}, (), {0: "", 1: ""})):
            self.assertFalse(is_single(rewriter))
            shell = shell_with(it=rewriter)
            kind, text = shell.do("single it").split(" ")
            self.assertEqual(kind, "two")
            self.assertGreater(len(all_results(raw_of(rewriter), text.strip("-"))), 1)
            for line in ("marks it", "rests it a -", "pass it", "equal it it", "machine it"):
                self.assertTrue(is_single_paper(rewriter, self.refused(NotSingle, shell.do, line).paper))
            self.assertEqual(shell.log[-1], "single it")
        self.assertEqual(shell.do("single it"), "two -")

    def test_books(self):
        alike = []
        for book in random_books(1020, 25) + [BOOK, Book("ab")]:
            machine = book.place_machine()
            marks = book.place_marks()
            shell = shell_with(it=book, same=book, plain=Book(book.letters))
            self.assertEqual([shell.do("marks it"), shell.do("machine it"), shell.do("equal it same")],
                             [str(len(marks)), format_machine(machine).replace("\n", " ; "), "equal"])
            self.assertEqual(shell.do("equal it plain"), "equal" if have_equal_places(book, Book(book.letters)) else "unlike")
            if len(machine) <= 12 and len(machine.steps) <= 64:
                paper = ahead_paper(machine.rewriter())
                self.assertEqual(shell.do("ahead it"), str(paper[1]) if paper[0] == "ahead" else "never")
            for rest in all_texts(book.letters, 2)[:5]:
                for other in all_texts(book.letters, 2)[:5]:
                    alike.append(marks(rest) == marks(other))
                    self.assertEqual(shell.do(f"rests it {shown(rest)} {shown(other)}"), "alike" if alike[-1] else "place")
        self.assertEqual(set(alike), {True, False})
        far = Book("ab", ("a", ANYTHING, ((("ab", "any"), ("b", "one")), False), "x"))
        two = Book("ab", ("a", ANYTHING, ((("ab", "one"), ("b", "one")), False), "x"))
        shell = shell_with(far=far, two=two, none=Book("ab"))
        self.assertEqual([shell.do("ahead " + name) for name in ("far", "two", "none")], ["never", "2", "0"])
        # How far a book looks ahead does not depend on what stands in front.
        many = book_of(1001, behind=False)
        self.assertEqual(shell_with(it=many).do("ahead it"), "0")

    def test_steps_undone_and_made_again(self):
        shell = Shell()
        shell.do(put("a", LAST))
        shell.do(put("a", ADD))
        shell.do(put("b", BOOK))
        shell.do("drop a")
        self.assertEqual(list(shell.do_all(("names", "undo", "names", "show a", "undo", "undo", "show a", "undo", "names"))),
                         ["b", "ok", "a b", lines_of(ADD), "ok", "ok", lines_of(LAST), "ok", "none"])
        self.assertEqual(self.refused(NothingToUndo, shell.do, "undo").many, 1)
        self.assertEqual(list(shell.do_all(("redo", "redo", "redo", "redo", "names"))), ["ok"] * 4 + ["b"])
        self.assertEqual(self.refused(NothingToUndo, shell.do, "redo").many, 1)
        # What is no step does not end `redo`; a refused line does not, either; a step does.
        shell.do("undo")
        shell.do("marks a")
        self.refused(UnknownName, shell.do, "drop z")
        self.refused(InvalidCommand, shell.do, "rewriter z letters")
        self.assertEqual([shell.do("redo"), shell.do("names"), shell.do("undo"), shell.do("drop b")], ["ok", "b", "ok", "ok"])
        self.assertEqual(self.refused(NothingToUndo, shell.do, "redo").many, 1)
        self.assertEqual([shell.do("undo"), shell.do("names"), shell.do("redo"), shell.do("names")], ["ok", "a b", "ok", "a"])

    def test_drawn_steps(self):
        chance = random.Random(1030)
        values = [LAST, ADD, BOOK, EMPTY, Book("a")]
        for _ in range(20):
            shell = Shell()
            tables, at, log = [{}], 0, []
            for _ in range(40):
                kind = chance.choice(("put", "put", "drop", "undo", "redo", "names"))
                name = chance.choice("abc")
                line, error, table = kind, None, None
                if kind == "put":
                    value = chance.choice(values)
                    line, table = put(name, value), {**tables[at], name: value}
                elif kind == "drop":
                    line, error = "drop " + name, None if name in tables[at] else UnknownName
                    table = {other: value for other, value in tables[at].items() if other != name}
                elif kind == "undo":
                    error = None if at else NothingToUndo
                elif kind == "redo":
                    error = None if at + 1 < len(tables) else NothingToUndo
                if error:
                    self.refused(error, shell.do, line)
                else:
                    self.assertEqual(shell.do(line), "ok" if kind != "names" else " ".join(sorted(tables[at])) or "none")
                    log.append(line)
                    at += {"undo": -1, "names": 0}.get(kind, 1)
                    if table is not None:
                        tables[at:] = [table]
                self.assertEqual((shell.names, shell.log, len(shell)), (tuple(sorted(tables[at])), tuple(log), len(log)))
            for name, value in tables[at].items():
                self.assertEqual(shell.do("show " + name), lines_of(value))

    def test_do_all(self):
        shell = Shell()
        answers = shell.do_all((put("a", LAST), "marks b", "drop a"))
        self.assertEqual(shell.log, ())
        self.assertEqual(next(answers), "ok")
        self.assertEqual(shell.names, ("a",))
        self.assertEqual(self.refused(UnknownName, next, answers).name, "b")
        self.assertEqual((shell.names, len(shell)), (("a",), 1))
        for value in any_values():
            if not isinstance(value, tuple):
                given = shell.do_all(value)
                self.refused(InvalidCommand, next, given)
            elif value:
                self.refused(InvalidCommand, lambda: list(shell.do_all(value)))
        self.assertEqual(list(shell.do_all(())), [])


class TestRefusals(Refusals, unittest.TestCase):
    WRONG = ("", " ", "names ", " names", "names a", "Names", "name", "show", "show  a", "show a ", "show A", "show abcdefghi", "show a b", "show -", "show a1", "drop", "drop a b", "undo 1", "redo a", "run a",
             "run a b c", "run a B", "run a  b", "run a --", "run a " + "a" * 61, "run a a-", "single", "single a b", "marks", "rests a a", "rests a a b c", "rests a a B", "rests a a  b", "pass", "pass a b",
             "ahead", "ahead a b", "equal a", "equal a b c", "equal a -", "machine", "machine a b", "rewriter", "rewriter a", "rewriter a ", "rewriter  letters ab", "rewriter abcdefghi letters ab", "rewriter A letters ab",
             "rewriter a letters", "rewriter a letters ab ;", "rewriter a letters ab ; ", "rewriter a letters ab ; end 0 -", "rewriter a letters ab;start 0 -", "rewriter a letters ab\nstart 0 -\nend 0 -",
             "rewriter a letters ab ;  start 0 - ; end 0 -", "rewriter a letters ab ; rule a . . -", "rewriter a  letters ab", "rewriter - letters ab", "book a letters ab ; start 0 - ; end 0 -", "book", "book a",
             "book a letters ab ; rule a . . -\n", "book a letters ab\nrule a . . -", "book a letters ba", "book a letters ab ; rule c . . -", "book a letters ab ; rule a . . - ; ", "names\n", "\nnames", "names;", "do names",
             "show a\n", "run a a\n", "quit", "rewriter a " + format_rewriter(LAST), "book a " + format_book(BOOK), "redo ", "undo undo")

    def test_lines_that_are_no_commands(self):
        shell = shell_with(a=LAST, b=BOOK)
        kept = (shell.names, shell.log)
        for line in self.WRONG:
            self.refused(InvalidCommand, shell.do, line)
            self.refused(InvalidCommand, Shell().do, line)
            self.assertEqual((shell.names, shell.log), kept)
        for value in any_values():
            if value not in ("names", "undo"):
                self.refused(InvalidCommand, shell.do, value)
        self.assertEqual((shell.names, shell.log), kept)
        shell.do("rewriter a letters ab ; start 0 - ; end 0 -")
        shell.do("run a " + "a" * 60)

    def test_names_that_nothing_has(self):
        shell = shell_with(a=LAST, b=BOOK, twice=TWICE)
        for line, name in (("show x", "x"), ("drop x", "x"), ("run x a", "x"), ("run x z", "x"), ("single x", "x"), ("marks x", "x"), ("rests x a b", "x"), ("pass x", "x"), ("ahead x", "x"),
                           ("equal x y", "x"), ("equal x a", "x"), ("equal a x", "x"), ("equal b y", "y"), ("machine x", "x"), ("equal twice y", "y")):
            self.assertEqual(self.refused(UnknownName, shell.do, line).name, name)
        self.assertEqual(len(shell), 3)

    def test_what_the_command_is_not_about(self):
        shell = shell_with(a=LAST, b=BOOK, twice=TWICE, many=book_of(257, behind=True))
        for line in ("single b", "pass b", "ahead a", "ahead twice", "equal a b", "equal b a", "equal twice b", "equal many a", "single many", "pass many"):
            self.refused(InvalidOperation, shell.do, line)
        self.assertEqual(len(shell), 4)

    def test_errors_of_what_is_called(self):
        more = many_sets(more=True)
        shell = shell_with(a=LAST, c=DROP, b=BOOK, d=Book("a"), twice=TWICE, more=more, nine=dropping(9), sights=book_of(257, behind=True), traces=book_of(1001, behind=False))
        for line in ("run a c", "run b abc", "rests a a z", "rests b z a", "rests b a z", "rests twice a z", "rests more a z", "rests sights a z", "rests sights z a", "equal a c", "equal b d", "equal more a"):
            self.refused(InvalidOperation, shell.do, line)
        for line, limit in (("marks more", 256), ("rests more a b", 256), ("machine more", 256), ("equal more more", 256), ("machine nine", 1000), ("marks sights", 256), ("rests sights a b", 256),
                            ("ahead sights", 256), ("machine sights", 256), ("equal sights traces", 256), ("equal traces sights", 1000), ("machine traces", 1000)):
            self.assertEqual(self.refused(TooMany, shell.do, line).limit, limit, line)
        for line in ("marks twice", "machine twice", "pass twice", "rests twice a b", "equal twice a", "equal a twice"):
            self.assertTrue(is_single_paper(TWICE, self.refused(NotSingle, shell.do, line).paper))
        self.assertEqual([len(shell), shell.names], [9, ("a", "b", "c", "d", "more", "nine", "sights", "traces", "twice")])
        self.assertEqual([shell.do("marks traces"), shell.do("pass more"), shell.do("pass nine")], ["1", "two" if not is_one_pass(more) else "one", "one"])

    def test_nothing_gives_access(self):
        shell = shell_with(a=LAST)
        for name in ("log", "names"):
            with self.assertRaises(AttributeError):
                setattr(shell, name, ())
        self.assertIs(type(shell.log), tuple)
        self.assertIs(type(shell.names), tuple)
        with self.assertRaises(TypeError):
            Shell(1)


if __name__ == "__main__":
    unittest.main()
