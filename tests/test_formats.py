"""Texts of values: [19.1], and module fewmarks.text.formats."""
import random
import unittest

from fewmarks.base.rewriters import Rewriter
from fewmarks.books.books import Book
from fewmarks.errors import InvalidBook, InvalidMachine, InvalidRewriter, ParseError
from fewmarks.machines.early import early
from fewmarks.machines.machines import TwoPass
from fewmarks.machines.marks import Marks, least_marks
from fewmarks.passes.onepass import OnePass, one_pass
from fewmarks.text.formats import (format_book, format_machine, format_marks, format_rewriter, format_writer, parse_book, parse_machine,
                                   parse_marks, parse_rewriter, parse_writer)
from helpers import ADD, DROP, EMPTY, KNOWN, LAST, Refusals, any_values, random_marks, random_rewriters
from test_books import BOOK, random_books
from test_machines import random_machines
from test_marks import counter
from test_onepass import random_all_parts, writer_of


def word_too(word):
    return word or "-"


def rewriter_too(rewriter):
    rows = ["letters " + rewriter.letters]
    rows += [f"start {p} {word_too(word)}" for p, word in sorted(rewriter.starts.items())]
    rows += [f"edge {p} {letter} {word_too(word)} {q}" for p, letter, word, q in sorted(rewriter.edges)]
    return "\n".join(rows + [f"end {p} {word_too(word)}" for p, word in sorted(rewriter.ends.items())])


def marks_too(marks):
    rows = ["letters " + marks.letters] + [f"step {letter} {mark} {after}" for (letter, mark), after in sorted(marks.steps.items())]
    return "\n".join(rows + ["good " + (" ".join(str(mark) for mark in marks.good) or "-")])


def machine_too(machine):
    rows = [f"begin {mark} {word_too(word)} {state}" for mark, (word, state) in sorted(machine.begins.items())]
    rows += [f"write {p} {letter} {mark} {word_too(word)} {q}" for (p, letter, mark), (word, q) in sorted(machine.steps.items())]
    return "\n".join([marks_too(machine.marks)] + rows + [f"end {p} {word_too(word)}" for p, word in sorted(machine.ends.items())])


def writer_too(writer):
    rows = ["letters " + writer.letters, "begin none" if writer.begin is None else f"begin {word_too(writer.begin[0])} {writer.begin[1]}"]
    rows += [f"step {p} {letter} {word_too(word)} {q}" for (p, letter), (word, q) in sorted(writer.steps.items())]
    return "\n".join(rows + [f"end {p} {word_too(word)}" for p, word in sorted(writer.ends.items())])


def pattern_too(pattern):
    items = "".join("[" + letters + "]" + {"one": "", "any": "*"}[kind] for letters, kind in pattern[0])
    return "^" + items if pattern[1] else items or "."


def book_too(book):
    return "\n".join(["letters " + book.letters] + [f"rule {letter} {pattern_too(before)} {pattern_too(behind)} {word_too(word)}" for letter, before, behind, word in book.rules])


KINDS = ((format_rewriter, parse_rewriter, rewriter_too), (format_marks, parse_marks, marks_too), (format_machine, parse_machine, machine_too),
         (format_writer, parse_writer, writer_too), (format_book, parse_book, book_too))


def drawn():
    """For each kind some values."""
    return ([*random_rewriters(900, 60), *KNOWN, EMPTY], random_marks(901, 40) + [counter(256), counter(12, "ab", tuple(range(12))), counter(3, "a", ())],
            random_machines(902, 40) + [early(LAST), early(EMPTY), early(ADD)],
            [writer_of(parts) for parts in random_all_parts(903, 60)] + [one_pass(DROP), OnePass("ab", begin=None, steps={}, ends={})],
            random_books(904, 60, most=8) + [BOOK, Book("abcd")])


def changed_texts(chance, text):
    """Texts that are nearly this one, most of which are the text of no value."""
    lines = text.split("\n")
    rows = []
    for at in range(len(lines)) if len(lines) < 9 else chance.sample(range(len(lines)), 8):
        line = lines[at]
        rest = lines[:at], lines[at + 1:]
        rows += [rest[0] + rest[1], lines[:at] + [line, line] + rest[1], rest[0] + [line + " "] + rest[1], rest[0] + [" " + line] + rest[1], rest[0] + [line + " -"] + rest[1],
                 rest[0] + [line.replace(" ", "  ", 1)] + rest[1], rest[0] + [line.upper()] + rest[1], rest[0] + [""] + lines[at:], rest[0] + [line.rpartition(" ")[0]] + rest[1],
                 rest[0] + ["word " + line] + rest[1], rest[0] + [line.replace("-", "")] + rest[1], rest[0] + [line + "\t"] + rest[1]]
        words = line.split(" ")
        for place, word in enumerate(words):
            for bent in (["0" + word, "+" + word, "-" + word, word + ".0", "1000", "12", "-1", "_" + word, word + "_0", str(int(word) + 1)] if word.isdigit() else
                         [word + "a", word + "q", "-" if word != "-" else "", "--", word.upper(), word[::-1], "none", "xxxxxxxxx", "[]", "^" + word, word + "*", "." + word]):
                rows.append(rest[0] + [" ".join(words[:place] + [bent] + words[place + 1:])] + rest[1])
    if len(lines) > 2:
        one, two = chance.sample(range(len(lines)), 2)
        swapped = list(lines)
        swapped[one], swapped[two] = swapped[two], swapped[one]
        rows += [swapped, lines[::-1], lines + lines[-1:], lines + lines[:1]]
    return ["\n".join(row) for row in rows] + [text + "\n", "\n" + text, text + " ", text.replace("\n", "\r\n"), text.replace("\n", "\n\n"), text.replace("\n", " ; ")]


class TestFormats(Refusals, unittest.TestCase):
    def test_examples(self):
        self.assertEqual([format_rewriter(DROP).split("\n"), format_book(BOOK).split("\n")[1], parse_rewriter(format_rewriter(ADD)) == ADD],
                         [['letters a', 'start 0 -', 'start 2 -', 'edge 0 a - 1', 'edge 0 a a 0', 'end 1 -', 'end 2 -'], 'rule a . [b] x', True])
        self.assertEqual([format_marks(least_marks(ADD)).split("\n")[-1], format_writer(one_pass(DROP)).split("\n")[1], format_machine(early(ADD)).split("\n")[-2:]],
                         ['good 0 1', 'begin - 0', ['write 1 b 1 b 1', 'end 0 -']])

    def test_word_for_word_and_back(self):
        for (write, parse, written), values in zip(KINDS, drawn()):
            for value in values:
                text = write(value)
                self.assertEqual(text, written(value))
                again = parse(text)
                self.assertIs(type(again), type(value))
                self.assertEqual(again, value)
                self.assertEqual(write(again), text)

    def test_lines_ascend_as_values(self):
        wide = Rewriter("a", {10: "", 9: "x"}, ((9, "a", "b", 10), (10, "a", "a", 9), (9, "a", "aa", 10)), {10: ""})
        self.assertEqual(format_rewriter(wide), "letters a\nstart 9 x\nstart 10 -\nedge 9 a aa 10\nedge 9 a b 10\nedge 10 a a 9\nend 10 -")
        self.refused(ParseError, parse_rewriter, "letters a\nstart 10 -\nstart 9 x\nedge 10 a a 9\nedge 9 a aa 10\nedge 9 a b 10\nend 10 -")
        self.assertEqual(format_marks(counter(11)).split("\n")[-3:], ["step a 9 10", "step a 10 0", "good 0"])

    def test_patterns_as_they_are_written(self):
        rows = ((((), False), "."), (((), True), "^"), (((("ab", "one"),), False), "[ab]"), (((("ab", "any"),), True), "^[ab]*"),
                (((("a", "any"), ("ab", "one"), ("b", "any")), False), "[a]*[ab][b]*"))
        for pattern, written in rows:
            book = Book("ab", ("b", pattern, ((), True), ""))
            self.assertEqual(format_book(book), f"letters ab\nrule b {written} ^ -")
            self.assertEqual(parse_book(f"letters ab\nrule b {written} ^ -"), book)
        for wrong in ("", "..", "^.", ".^", "^^", "[]", "[ba]", "[aa]", "[ab", "ab]", "[ab]**", "[ab]^", "*[ab]", "[ab]+", "[c]", "[a][a][a][a]", "[ab]x", "x[ab]", "[a]]", "[[a]", "[a]*]", "[a] [b]", "-", "[A]", "[a]*.", ".[a]"):
            self.refused(ParseError, parse_book, f"letters ab\nrule b {wrong} ^ -")
            self.refused(ParseError, parse_book, f"letters ab\nrule b ^ {wrong} -")

    def test_texts_that_are_nearly_one(self):
        chance = random.Random(910)
        for (write, parse, written), values in zip(KINDS, drawn()):
            right = wrong = 0
            for value in chance.sample(values, 24):
                for text in changed_texts(chance, write(value)):
                    try:
                        found = parse(text)
                    except ParseError:
                        wrong += 1
                        continue
                    # Whatever is read has just this text, told in another way.
                    self.assertEqual(written(found), text)
                    self.assertIs(type(found), type(value))
                    right += 1
            self.assertGreater(right, 30)
            self.assertGreater(wrong, 500)

    def test_what_is_refused(self):
        rows = {parse_rewriter: ("letters a\nstart 0 -", "letters a\nstart 0 -\nend 1 -", "letters a\nstart 0 -\nedge 0 a - 1\nend 0 -", "letters a\nstart 0 -\nstart 0 x\nend 0 -",
                                 "letters a\nend 0 -\nstart 0 -", "letters ab ", "letters ba", "letters abcde", "letters -", "letters", "", "a", "letters a\nletters a", "letters a\nstart 12 -\nend 12 -",
                                 "letters a\nstart 0 xxxxxxxxx\nend 0 -", "letters a\nstart 00 -\nend 0 -", "letters a\nstart 0 \nend 0 -", "letters a\nstart 0 -\nend 0 -\ngood 0",
                                 "letters a\nstart 0 -\nedge 0 b - 0\nend 0 -", "letters a\nstart 0 -\nedge 0 a - 0\nedge 0 a - 0\nend 0 -", "letters a\nstart 0 - -\nend 0 -"),
                parse_marks: ("letters a\nstep a 0 0", "letters a\ngood -", "letters a\nstep a 0 0\ngood", "letters a\nstep a 0 0\ngood - -", "letters a\nstep a 0 0\ngood 0 0", "letters a\nstep a 0 1\ngood 0",
                              "letters a\nstep a 0 1\nstep a 1 1\ngood 1 0", "letters a\nstep a 0 0\ngood 0 -", "letters a\nstep a 0 0\ngood 1", "letters a\ngood 0\nstep a 0 0", "letters a\nstep a 0 0\ngood 0\ngood 0",
                              "letters a\nstep a 0 0\nstep a 1 1\ngood 0", "letters a\nstep b 0 0\ngood 0", "letters a\nstep a 0 0\ngood -\ngood 0"),
                parse_machine: ("letters a\nstep a 0 0\ngood 0", "letters a\nstep a 0 0\ngood 0\nbegin 0 - 0\nwrite 0 a 0 - 0", "letters a\nstep a 0 0\ngood -\nbegin 0 - 0\nwrite 0 a 0 - 0\nend 0 -",
                                "letters a\nstep a 0 0\ngood 0\nbegin 0 - 0\nend 0 -\nwrite 0 a 0 - 0", "letters a\nstep a 0 0\ngood 0\nbegin 0 - 1000\nwrite 1000 a 0 - 1000\nend 1000 -"),
                parse_writer: ("letters a", "letters a\nbegin -", "letters a\nbegin none\nend 0 -", "letters a\nbegin - 0", "letters a\nbegin none\nbegin - 0\nend 0 -", "letters a\nbegin - 0\nend 0 -\nbegin none",
                               "letters a\nbegin - 0\nbegin - 0\nend 0 -", "letters a\nbegin none none", "letters a\nbegin none 0", "letters a\nend 0 -\nbegin - 0", "letters a\nbegin - 0\nend 0 -\nstep 0 a - 0"),
                parse_book: ("letters", "letters ab\nrule a . . -\n", "letters ab\nrule a . .", "letters ab\nrule a . . - -", "letters ab\nrule c . . -", "letters ab\nrule a . . xxxxxxxxx", "letters ab\nrule a . . X",
                             "letters ab" + "\nrule a . . -" * 9, "rule a . . -\nletters ab", "letters ab\nrules a . . -", "letters ab\n\nrule a . . -")}
        for parse, texts in rows.items():
            for text in texts:
                self.refused(ParseError, parse, text)
        self.assertEqual(parse_machine("letters a\nstep a 0 0\ngood 0\nbegin 0 - 999\nwrite 999 a 0 - 999\nend 999 -").states, (999,))
        self.assertEqual([parse_rewriter("letters a"), parse_writer("letters a\nbegin none"), len(parse_book("letters ab" + "\nrule a . . -" * 8))],
                         [Rewriter("a", {}, (), {}), OnePass("a", begin=None, steps={}, ends={}), 8])
        # A word can be "none".
        self.assertEqual(parse_writer("letters a\nbegin none 0\nend 0 -").begin, ("none", 0))

    def test_texts_of_other_kinds(self):
        values = [rows[0] for rows in drawn()]
        for (write, _, _), value in zip(KINDS, values):
            for other, (_, parse, _) in enumerate(KINDS):
                if KINDS[other][0] is not write:
                    self.refused(ParseError, parse, write(value))

    def test_any_value(self):
        errors = {format_rewriter: (InvalidRewriter, Rewriter), format_marks: (InvalidMachine, Marks), format_machine: (InvalidMachine, TwoPass),
                  format_writer: (InvalidMachine, OnePass), format_book: (InvalidBook, Book)}
        right = 0
        for value in any_values() + ["letters a " * 99, "\n" * 1000, "letters " + "a" * 992, "9" * 1000, "step a " + "9" * 900]:
            for write, parse, _ in KINDS:
                error, kind = errors[write]
                if not isinstance(value, kind):
                    self.refused(error, write, value)
                try:
                    found = parse(value)
                except ParseError:
                    continue
                right += 1
                self.assertEqual(write(found), value)
        self.assertEqual(right, 2)

    def test_the_largest_values(self):
        steps = {(letter, mark): (mark + 1) % 256 for letter in "abcd" for mark in range(256)}
        marks = Marks("abcd", steps, tuple(range(256)))
        self.assertEqual(parse_marks(format_marks(marks)), marks)
        self.assertEqual(len(format_marks(marks).split("\n")), 1026)
        writer = OnePass("a", begin=("x" * 900, 0), steps={(at, "a"): ("y" * (at % 40), at + 1) for at in range(999)}, ends={999: ""})
        self.assertEqual(parse_writer(format_writer(writer)), writer)


if __name__ == "__main__":
    unittest.main()
