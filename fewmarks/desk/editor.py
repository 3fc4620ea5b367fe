"""An editor: a two-pass machine and a text, with steps that can be undone and made again."""
from fewmarks.base.words import MAX_TEXT, is_text
from fewmarks.core.checks import check_text
from fewmarks.core.kinds import is_below, is_integer, is_tuple_of
from fewmarks.errors import InvalidEdit, InvalidNumber, NothingToUndo
from fewmarks.machines.machines import TwoPass, check_machine
from fewmarks.machines.marks import marks_along


class Sheet:
    """A machine and a text, the marks of its places, and the words that are written; it never changes."""

    def __init__(self, machine, text):
        self.tool = machine
        self.content = text
        self.noted = marks_along(machine.marks.steps, text)
        self.told = tuple([word for word, _ in machine.walk(text)])


class Kept:
    """All that an editor knew at the beginning of a block, and what is kept for the block around it, or None."""

    def __init__(self, editor, outer):
        self.sheet = editor._sheet
        self.done = editor._done
        self.undone = editor._undone
        self.fresh = editor._fresh
        self.outer = outer


class Trial:
    """A block at the end of which an editor is as at its beginning."""

    def __init__(self, editor):
        self._editor = editor
        self._kept = None

    def __enter__(self):
        self._kept = Kept(self._editor, self._kept)
        return self._editor

    def __exit__(self, kind, value, trace):
        self._editor._sheet = self._kept.sheet
        self._editor._done = self._kept.done
        self._editor._undone = self._kept.undone
        self._editor._fresh = self._kept.fresh
        self._kept = self._kept.outer


class Editor:
    """A two-pass machine and a text over its letters that is edited.

    Steps that are done are kept as pairs (step, sheet before it), and those that are undone as pairs (step, sheet
    behind it); the one that was done, or undone, last stands last.
    """

    def __init__(self, machine, text=""):
        check_machine(machine)
        check_text(machine, text)
        self._sheet = Sheet(machine, text)
        self._done = ()
        self._undone = ()
        self._fresh = ()

    @property
    def machine(self):
        """The machine."""
        return self._sheet.tool

    @property
    def text(self):
        """The text."""
        return self._sheet.content

    @property
    def result(self):
        """The result of the text, or None."""
        return "".join(self._sheet.told) if self._sheet.told else None

    @property
    def marks(self):
        """The tuple of the marks of the places."""
        return self._sheet.noted

    @property
    def words(self):
        """The words that are written at the begin, with each letter and at the end; none without a result."""
        return self._sheet.told

    @property
    def log(self):
        """The tuple of the steps in effect."""
        return tuple([step for step, _ in self._done])

    def make(self, *edits):
        """Makes a step of these edits; tells how many steps are in effect."""
        return self.make_step(edits)

    def make_step(self, step):
        """Makes a step, a tuple of edits; tells how many steps are in effect."""
        if not isinstance(step, tuple) or len(step) == 0:
            raise InvalidEdit("not a tuple of edits")
        machine, text = self._sheet.tool, self._sheet.content
        for edit in step:
            machine, text = _edited(machine, text, edit)
        return self._changed(Sheet(machine, text), self._done + ((step, self._sheet),), ())

    def undo(self, *, many=1):
        """Takes back the last steps; tells how many are in effect."""
        _check_many(many, self._done)
        left = len(self._done) - many
        sheet, undone = _moved_back(self._sheet, self._done[left:], self._undone)
        return self._changed(sheet, self._done[:left], undone)

    def redo(self, *, many=1):
        """Makes steps again that were taken back; tells how many are in effect."""
        _check_many(many, self._undone)
        left = len(self._undone) - many
        sheet, done = _moved_back(self._sheet, self._undone[left:], self._done)
        return self._changed(sheet, done, self._undone[:left])

    def news(self):
        """A generator of the news of the last change: (place, old mark, new mark)."""
        for triple in self._fresh:
            yield triple

    def trial(self):
        """For `with`: gives the editor itself; at the end of the block everything is as at its beginning."""
        return Trial(self)

    def attempt(self, action):
        """What an action returns for the editor, which is as before behind it."""
        with self.trial() as same:
            return action(same)

    def twin(self):
        """An independent editor in the same state."""
        other = Editor(self._sheet.tool, self._sheet.content)
        other._done = self._done
        other._undone = self._undone
        other._fresh = self._fresh
        return other

    def __iter__(self):
        return iter(self._sheet.content)

    def __len__(self):
        return len(self._sheet.content)

    def __eq__(self, other):
        return (isinstance(other, Editor) and self._sheet.tool == other._sheet.tool
                and self._sheet.content == other._sheet.content)

    def __str__(self):
        return f"editor of {len(self._sheet.content)} letters, {len(self._done)} steps"

    def _changed(self, sheet, done, undone):
        """Goes over to a sheet, with the news of this; tells how many steps are in effect."""
        self._fresh = _news_between(self._sheet, sheet)
        self._sheet = sheet
        self._done = done
        self._undone = undone
        return len(done)


def _edited(machine, text, edit):
    """The machine and the text behind an edit."""
    if is_tuple_of(edit, 3) and edit[0] == "put":
        _, at, letters = edit
        if not is_below(at, len(text) + 1) or not is_text(letters) or letters.strip(machine.letters) != "":
            raise InvalidEdit("not a place, or not letters of the machine")
        if letters == "" or len(text) + len(letters) > MAX_TEXT:
            raise InvalidEdit("no letters, or too many of them")
        return machine, text[:at] + letters + text[at:]
    if is_tuple_of(edit, 3) and edit[0] == "cut":
        _, at, many = edit
        if not is_below(at, len(text)) or not is_below(many, len(text) - at + 1) or many == 0:
            raise InvalidEdit("not letters of the text")
        return machine, text[:at] + text[at + many:]
    if is_tuple_of(edit, 2) and edit[0] == "use" and isinstance(edit[1], TwoPass):
        if text.strip(edit[1].letters) != "":
            raise InvalidEdit("a letter of the text that the machine does not have")
        return edit[1], text
    raise InvalidEdit("not an edit")


def _check_many(many, steps):
    """Refuses what is no number of these steps."""
    if not is_integer(many) or many < 0:
        raise InvalidNumber(many)
    if many > len(steps):
        raise NothingToUndo(many)


def _moved_back(sheet, steps, others):
    """The sheet behind going over these steps from the last to the first, and the other ones with these steps."""
    for step, beyond in steps[::-1]:
        others = others + ((step, sheet),)
        sheet = beyond
    return sheet, others


def _shared_letters(text, other):
    """How many letters both texts begin with together."""
    many = 0
    while many < min(len(text), len(other)) and text[many] == other[many]:
        many += 1
    return many


def _news_between(old, new):
    """The news of the change from a sheet to another one."""
    before, after = old.content, new.content
    begin = _shared_letters(before, after)
    end = _shared_letters(before[begin:][::-1], after[begin:][::-1])
    found = []
    for place, mark in enumerate(new.noted):
        was = None
        if place <= begin:
            was = old.noted[place]
        elif place >= len(after) - end:
            was = old.noted[place + len(before) - len(after)]
        if was != mark:
            found.append((place, was, mark))
    return tuple(found)
