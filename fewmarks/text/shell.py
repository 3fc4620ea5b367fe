"""A shell: rewriters and books under names, and commands that are lines of words."""
from fewmarks.base.rewriters import Rewriter
from fewmarks.base.words import is_text, is_word
from fewmarks.books.books import have_equal_places
from fewmarks.core.checks import check_text
from fewmarks.errors import InvalidCommand, InvalidOperation, NothingToUndo, ParseError, UnknownName
from fewmarks.machines.early import early
from fewmarks.machines.equal import have_equal_results
from fewmarks.machines.marks import least_marks
from fewmarks.pairs.single import single_paper
from fewmarks.passes.ahead import ahead_of
from fewmarks.passes.onepass import is_one_pass
from fewmarks.rests.papers import rest_paper
from fewmarks.text.formats import format_book, format_machine, format_rewriter, parse_book, parse_rewriter

_MOST_LETTERS = 8
# For each command what its further words are.
_FORMS = {
    "rewriter": ("new", "lines"), "book": ("new", "lines"), "drop": ("name",), "undo": (), "redo": (),
    "names": (), "show": ("name",), "run": ("name", "word"), "single": ("name",), "marks": ("name",),
    "rests": ("name", "word", "word"), "pass": ("name",), "ahead": ("name",), "equal": ("name", "name"),
    "machine": ("name",),
}


class Shell:
    """Rewriters and books under names, with steps that can be undone and made again.

    A step makes a new table of names, and the tables before it are kept.
    """

    def __init__(self):
        self._table = {}
        self._before = []
        self._behind = []
        self._lines = []

    @property
    def log(self):
        """The tuple of the lines that were done without an error."""
        return tuple(self._lines)

    @property
    def names(self):
        """The ascending tuple of the names."""
        return tuple(sorted(list(self._table)))

    def do(self, line):
        """Does a command and returns its answer."""
        verb, parts = _command_of(line)
        values = self._looked_up(verb, parts)
        if verb in _ANSWERS:
            action = _ANSWERS[verb]
            answer = action(*values)
        elif verb == "names":
            answer = " ".join(self.names) if self._table else "none"
        else:
            self._step(verb, parts)
            answer = "ok"
        self._lines.append(line)
        return answer

    def do_all(self, lines):
        """A generator of the answers to the lines of a tuple, each done when its answer is asked for."""
        if not isinstance(lines, tuple):
            raise InvalidCommand("not a tuple of lines")
        for line in lines:
            yield self.do(line)

    def __contains__(self, value):
        return isinstance(value, str) and value in self._table

    def __len__(self):
        return len(self._lines)

    def __str__(self):
        return f"shell with {len(self._table)} names"

    def _looked_up(self, verb, parts):
        """The parts of a command, with values in the place of their names."""
        values = []
        for form, part in zip(_FORMS[verb], parts):
            if form == "name" and part not in self._table:
                raise UnknownName(part)
            values.append(self._table[part] if form == "name" else part)
        return values

    def _step(self, verb, parts):
        """Makes a step, takes one back or makes one again."""
        now = self._table
        if verb == "undo":
            _check_any(self._before)
            self._table = self._before.pop()
            self._behind.append(now)
        elif verb == "redo":
            _check_any(self._behind)
            self._table = self._behind.pop()
            self._before.append(now)
        else:
            self._table = {name: value for name, value in now.items() if name != parts[0]}
            if verb != "drop":
                self._table[parts[0]] = parts[1]
            self._before.append(now)
            self._behind = []


def _check_any(tables):
    if len(tables) == 0:
        raise NothingToUndo(1)


def _command_of(line):
    """The first word of a command, and its further parts: names, words, and the value of lines."""
    words = line.split(" ") if isinstance(line, str) else [""]
    if words[0] not in _FORMS:
        raise InvalidCommand("not a command")
    verb = words[0]
    forms = _FORMS[verb]
    given = words[1:]
    if "lines" in forms:
        given = words[1:2] + [" ".join(words[2:])]
    if len(given) != len(forms):
        raise InvalidCommand("too few or too many words")
    return verb, [_part_of(verb, form, word) for form, word in zip(forms, given)]


def _part_of(verb, form, word):
    """What a word, or lines, of a command stand for."""
    if form == "lines":
        return _value_of(verb, word)
    if form == "word":
        if word == "" or (word != "-" and not is_text(word)):
            raise InvalidCommand("not a text")
        return "" if word == "-" else word
    if not is_word(word) or not 1 <= len(word) <= _MOST_LETTERS:
        raise InvalidCommand("not a name")
    return word


def _value_of(verb, lines):
    """The rewriter or the book with these lines."""
    if "\n" in lines:
        raise InvalidCommand("a line end")
    text = lines.replace(" ; ", "\n")
    try:
        return _parsed(verb, text)
    except ParseError:
        raise InvalidCommand("not the text of a rewriter, or of a book")


def _parsed(verb, text):
    return parse_rewriter(text) if verb == "rewriter" else parse_book(text)


def _shown(word):
    return word if word else "-"


def _as_lines(text):
    return text.replace("\n", " ; ")


def _check_is_rewriter(value):
    if not isinstance(value, Rewriter):
        raise InvalidOperation("not a rewriter")


def _check_is_book(value):
    if isinstance(value, Rewriter):
        raise InvalidOperation("not a book")


def _show(value):
    return _as_lines(format_rewriter(value) if isinstance(value, Rewriter) else format_book(value))


def _run(value, word):
    results = value(word) if isinstance(value, Rewriter) else (value(word),)
    return " ".join([_shown(found) for found in results]) if results else "none"


def _single(value):
    _check_is_rewriter(value)
    paper = single_paper(value)
    return "single" if paper[0] == "single" else "two " + _shown(paper[1])


def _marks(value):
    marks = least_marks(value) if isinstance(value, Rewriter) else value.place_marks()
    return str(len(marks))


def _rests(value, word, other):
    if isinstance(value, Rewriter):
        paper = rest_paper(value, word, other)
        return "alike" if paper[0] == "alike" else paper[1][0]
    check_text(value, word)
    check_text(value, other)
    marks = value.place_marks()
    return "alike" if marks(word) == marks(other) else "place"


def _pass(value):
    _check_is_rewriter(value)
    return "one" if is_one_pass(value) else "two"


def _ahead(value):
    _check_is_book(value)
    paper = ahead_of(value.place_marks())
    return str(paper[1]) if paper[0] == "ahead" else "never"


def _equal(value, other):
    if isinstance(value, Rewriter):
        _check_is_rewriter(other)
        same = have_equal_results(value, other)
    else:
        _check_is_book(other)
        same = have_equal_places(value, other)
    return "equal" if same else "unlike"


def _machine(value):
    return _as_lines(format_machine(early(value) if isinstance(value, Rewriter) else value.place_machine()))


_ANSWERS = {
    "show": _show, "run": _run, "single": _single, "marks": _marks, "rests": _rests, "pass": _pass, "ahead": _ahead,
    "equal": _equal, "machine": _machine,
}
