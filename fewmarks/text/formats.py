"""Texts of values: each rewriter, marks, machine, writer and book has exactly one.

A text is read by the lines that it should have, and refused if the value has another text.
"""
from fewmarks.base.rewriters import Rewriter, check_rewriter
from fewmarks.books.books import Book, check_book
from fewmarks.errors import InvalidBook, InvalidMachine, InvalidRewriter, ParseError
from fewmarks.machines.machines import TwoPass, check_machine
from fewmarks.machines.marks import Marks, check_marks
from fewmarks.passes.onepass import OnePass, check_writer

# No number in a text has more digits.
_DIGITS = 3


def format_rewriter(rewriter):
    """The text of a rewriter."""
    check_rewriter(rewriter)
    rows = [("letters", rewriter.letters)]
    rows = rows + [("start", state, _shown(word)) for state, word in rewriter.starts.items()]
    rows = rows + [("edge", state, letter, _shown(word), after) for state, letter, word, after in rewriter.edges]
    rows = rows + [("end", state, _shown(word)) for state, word in rewriter.ends.items()]
    return _joined(rows)


def format_marks(marks):
    """The text of marks."""
    check_marks(marks)
    return _joined(_rows_of_marks(marks))


def format_machine(machine):
    """The text of a two-pass machine."""
    check_machine(machine)
    rows = _rows_of_marks(machine.marks)
    rows = rows + [("begin", mark, _shown(word), state) for mark, (word, state) in machine.begins.items()]
    rows = rows + [("write", state, letter, mark, _shown(word), after)
                   for (state, letter, mark), (word, after) in machine.steps.items()]
    rows = rows + [("end", state, _shown(word)) for state, word in machine.ends.items()]
    return _joined(rows)


def format_writer(writer):
    """The text of a one-pass writer."""
    check_writer(writer)
    begin = writer.begin
    rows = [("letters", writer.letters), ("begin", "none") if begin is None else ("begin", _shown(begin[0]), begin[1])]
    rows = rows + [("step", state, letter, _shown(word), after)
                   for (state, letter), (word, after) in writer.steps.items()]
    rows = rows + [("end", state, _shown(word)) for state, word in writer.ends.items()]
    return _joined(rows)


def format_book(book):
    """The text of a book."""
    check_book(book)
    rows = [("rule", letter, _shown_pattern(before), _shown_pattern(behind), _shown(word))
            for letter, before, behind, word in book.rules]
    return _joined([("letters", book.letters)] + rows)


def parse_rewriter(text):
    """The rewriter with this text."""
    rows = _rows_of(text)
    letters = _letters(rows)
    edges = [(_number(row[1]), row[2], _word(row[3]), _number(row[4])) for row in _rows_with(rows, "edge", 5)]
    starts, ends = _words_of_states(rows, "start"), _words_of_states(rows, "end")
    try:
        found = Rewriter(letters, starts, tuple(edges), ends)
    except InvalidRewriter:
        raise ParseError("not the text of a rewriter")
    return _same(found, format_rewriter(found), text)


def parse_marks(text):
    """The marks with this text."""
    found = _marks_of(_rows_of(text))
    return _same(found, format_marks(found), text)


def parse_machine(text):
    """The two-pass machine with this text."""
    rows = _rows_of(text)
    marks = _marks_of(rows)
    begins = {_number(row[1]): (_word(row[2]), _number(row[3])) for row in _rows_with(rows, "begin", 4)}
    steps = {(_number(row[1]), row[2], _number(row[3])): (_word(row[4]), _number(row[5]))
             for row in _rows_with(rows, "write", 6)}
    ends = _words_of_states(rows, "end")
    try:
        found = TwoPass(marks, begins=begins, steps=steps, ends=ends)
    except InvalidMachine:
        raise ParseError("not the text of a two-pass machine")
    return _same(found, format_machine(found), text)


def parse_writer(text):
    """The one-pass writer with this text."""
    rows = _rows_of(text)
    letters = _letters(rows)
    begins = [(_word(row[1]), _number(row[2])) for row in _rows_with(rows, "begin", 3)]
    begin = begins[0] if begins else None
    steps = {(_number(row[1]), row[2]): (_word(row[3]), _number(row[4])) for row in _rows_with(rows, "step", 5)}
    ends = _words_of_states(rows, "end")
    try:
        found = OnePass(letters, begin=begin, steps=steps, ends=ends)
    except InvalidMachine:
        raise ParseError("not the text of a one-pass writer")
    return _same(found, format_writer(found), text)


def parse_book(text):
    """The book with this text."""
    rows = _rows_of(text)
    letters = _letters(rows)
    rules = [(row[1], _pattern(row[2]), _pattern(row[3]), _word(row[4])) for row in _rows_with(rows, "rule", 5)]
    try:
        found = Book.of(letters, tuple(rules))
    except InvalidBook:
        raise ParseError("not the text of a book")
    return _same(found, format_book(found), text)


def _joined(rows):
    """The lines of rows of words and numbers."""
    return "\n".join([" ".join([str(part) for part in row]) for row in rows])


def _shown(word):
    """A word as it is written."""
    return word if word else "-"


def _rows_of_marks(marks):
    steps = [("step", letter, mark, after) for (letter, mark), after in marks.steps.items()]
    good = marks.good if marks.good else ("-",)
    return [("letters", marks.letters)] + steps + [("good",) + good]


def _shown_pattern(pattern):
    """A pattern as it is written."""
    items, whole = pattern
    if not items:
        return "^" if whole else "."
    parts = [f"[{letters}]" if kind == "one" else f"[{letters}]*" for letters, kind in items]
    return ("^" if whole else "") + "".join(parts)


def _rows_of(text):
    """The words of the lines of a text, one line or more."""
    if not isinstance(text, str):
        raise ParseError("not a string")
    return [line.split(" ") for line in text.split("\n")]


def _rows_with(rows, name, many):
    """The rows that begin with a name and have so many words."""
    return [row for row in rows if row[0] == name and len(row) == many]


def _letters(rows):
    """The letters that the first row tells."""
    if rows[0][0] != "letters" or len(rows[0]) != 2:
        raise ParseError("no letters")
    return rows[0][1]


def _number(word):
    """The number that a word stands for."""
    if not word.isdecimal() or len(word) > _DIGITS:
        raise ParseError("not a number")
    return int(word)


def _word(word):
    """The word that is written so."""
    return "" if word == "-" else word


def _words_of_states(rows, name):
    """A dict from states to words."""
    return {_number(row[1]): _word(row[2]) for row in _rows_with(rows, name, 3)}


def _marks_of(rows):
    """The marks that some of the rows tell."""
    letters = _letters(rows)
    steps = {(row[1], _number(row[2])): _number(row[3]) for row in _rows_with(rows, "step", 4)}
    lists = [row[1:] for row in rows if row[0] == "good" and row[1:] != ["-"]]
    good = [_number(word) for word in lists[0]] if lists else []
    try:
        return Marks(letters, steps, tuple(good))
    except InvalidMachine:
        raise ParseError("not the text of marks")


def _pattern(word):
    """The pattern that is written so, or another value if there is none."""
    whole = word.startswith("^")
    parts = word.split("[")[1:]
    items = [(part.rstrip("]*"), "any" if part.endswith("*") else "one") for part in parts]
    return tuple(items), whole


def _same(value, right, text):
    """The value, if its text is this one."""
    if right != text:
        raise ParseError("not as the text of the value is written")
    return value
