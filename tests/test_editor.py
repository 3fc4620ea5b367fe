"""An editor: [18.1], [18.2], [0.2], [0.22], and module fewmarks.desk.editor."""
import random
import unittest

from fewmarks.desk.editor import Editor
from fewmarks.errors import InvalidEdit, InvalidMachine, InvalidNumber, InvalidOperation, InvalidText, NothingToUndo
from fewmarks.machines.early import early
from fewmarks.machines.machines import TwoPass
from helpers import ADD, LAST, SWAP, Refusals, all_texts, any_values, is_string_of_letters, is_whole, random_marks
from test_machines import ADDER, random_machine, run_too
from test_marks import counter, mark_too

LASTER = early(LAST)


def machines_for(seed, many, letters="ab"):
    chance = random.Random(seed)
    return [random_machine(chance, marks, most=2) for marks in random_marks(seed, many, most=4, letters=letters)]


def marks_too(machine, text):
    return tuple(mark_too(machine.marks, text[at:]) for at in range(len(text) + 1))


def news_too(old, new):
    """The news of a change of a pair of a machine and a text, as [18.2] tells it."""
    (machine, before), (other, after) = old, new
    b = max(k for k in range(min(len(before), len(after)) + 1) if before[:k] == after[:k])
    rest, further = before[b:], after[b:]
    e = max(k for k in range(min(len(rest), len(further)) + 1) if rest[len(rest) - k:] == further[len(further) - k:])
    was, now = marks_too(machine, before), marks_too(other, after)
    found = []
    for place, mark in enumerate(now):
        then = None
        if place <= b:
            then = was[place]
        elif len(after) - place <= e:
            then = was[len(before) - (len(after) - place)]
        if then is None or then != mark:
            found.append((place, then, mark))
    return found


def edited_too(machine, text, edit):
    """The machine and the text behind an edit, or None for an edit that is none."""
    if type(edit) is not tuple or not edit or type(edit[0]) is not str:
        return None
    if edit[0] == "put" and len(edit) == 3 and is_whole(edit[1]) and 0 <= edit[1] <= len(text):
        if is_string_of_letters(edit[2]) and edit[2] and set(edit[2]) <= set(machine.letters) and len(text) + len(edit[2]) <= 60:
            return machine, text[:edit[1]] + edit[2] + text[edit[1]:]
    if edit[0] == "cut" and len(edit) == 3 and is_whole(edit[1]) and is_whole(edit[2]) and edit[1] >= 0 and edit[2] >= 1 and edit[1] + edit[2] <= len(text):
        return machine, text[:edit[1]] + text[edit[1] + edit[2]:]
    if edit[0] == "use" and len(edit) == 2 and type(edit[1]) is TwoPass and set(text) <= set(edit[1].letters):
        return edit[1], text
    return None


class Model:
    """What an editor should be, kept as a list of all machines and texts."""

    def __init__(self, machine, text):
        self.states, self.steps, self.at, self.news = [(machine, text)], [], 0, []

    def go(self, at):
        self.news = news_too(self.states[self.at], self.states[at])
        self.at = at

    def make(self, step):
        now = self.states[self.at]
        for edit in step:
            now = now and edited_too(*now, edit)
        if now is None or not step:
            return False
        self.states[self.at + 1:], self.steps[self.at:] = [now], [step]
        self.go(self.at + 1)
        return True


def random_edit(chance, text, machines, letters="ab"):
    """An edit that is often one."""
    kind = chance.choice(("put", "put", "put", "cut", "cut", "use"))
    if kind == "put":
        return (kind, chance.randint(0, len(text)), "".join(chance.choice(letters) for _ in range(chance.randint(1, 3))))
    if kind == "cut":
        at = chance.randint(0, max(0, len(text) - 1))
        return (kind, at, chance.randint(1, max(1, min(3, len(text) - at))))
    return (kind, chance.choice(machines))


class TestEditor(Refusals, unittest.TestCase):
    def test_examples(self):
        editor = Editor(ADDER, "abb")
        self.assertEqual([editor.result, editor.marks, editor.make(("cut", 0, 1)), editor.result, editor.words, editor.make(("put", 2, "a"))],
                         ['baa', (1, 0, 0, 0), 1, 'aa', ('', 'a', 'a', ''), 2])
        self.assertEqual([editor.text, list(editor.news()), editor.undo(many=2), editor.text, list(editor.news())],
                         ['bba', [(0, 0, 1), (1, 0, 1), (2, 0, 1)], 0, 'abb', [(1, None, 0), (2, None, 0)]])

    def check(self, editor, model):
        machine, text = model.states[model.at]
        self.assertEqual((editor.text, editor.log), (text, tuple(model.steps[:model.at])))
        self.assertIs(editor.machine, machine)
        rows = run_too(machine, text)
        self.assertEqual(editor.marks, marks_too(machine, text))
        self.assertEqual(editor.words, () if rows is None else tuple(word for word, _ in rows))
        self.assertEqual(editor.result, None if rows is None else "".join(word for word, _ in rows))
        self.assertEqual(list(editor.news()), model.news)
        self.assertEqual((len(editor), list(editor), "".join(editor)), (len(text), list(text), text))
        self.assertEqual(str(editor), f"editor of {len(text)} letters, {model.at} steps")
        self.assertEqual(editor, Editor(machine, text))

    def test_drawn_steps(self):
        counts = {}
        for seed in range(40):
            chance = random.Random(800 + seed)
            machines = machines_for(810 + seed, 4, "a" if seed % 4 == 0 else "ab") + ([] if seed % 4 == 0 else [ADDER, LASTER])
            machine = machines[0]
            letters = machine.letters
            text = "".join(chance.choice(letters) for _ in range(chance.randint(0, 6)))
            editor, model = Editor(machine, text), Model(machine, text)
            for _ in range(60):
                done = chance.choice(("make", "make", "make", "undo", "redo"))
                if done == "make":
                    machine, text = model.states[model.at]
                    step = tuple(random_edit(chance, text, machines, letters) for _ in range(chance.choice((1, 1, 1, 2, 3))))
                    fine = model.make(step)
                    call = chance.choice((lambda: editor.make(*step), lambda: editor.make_step(step)))
                    if fine:
                        self.assertEqual(call(), model.at)
                    else:
                        self.refused(InvalidEdit, call)
                    counts[("make", fine)] = counts.get(("make", fine), 0) + 1
                else:
                    there = model.at if done == "undo" else len(model.steps) - model.at
                    many = chance.choice((0, 1, 1, 1, 2, 3))
                    call = editor.undo if done == "undo" else editor.redo
                    if many > there:
                        self.assertEqual(self.refused(NothingToUndo, call, many=many).many, many)
                    else:
                        model.go(model.at + (many if done == "redo" else -many))
                        self.assertEqual(call(many=many) if many != 1 or chance.random() < 0.5 else call(), model.at)
                    counts[(done, many <= there)] = counts.get((done, many <= there), 0) + 1
                self.check(editor, model)
        self.assertGreater(min(counts.values()), 20)
        self.assertEqual(len(counts), 6)

    def test_news_where_one_letter_stands_again_and_again(self):
        parity = machines_for(820, 1, "a")[0]
        for machine in (early(SWAP), ADDER, LASTER, parity):
            for many in range(5):
                text = "a" * many
                for edit in [("put", at, "a" * more) for at in range(many + 1) for more in (1, 2)] + [("cut", at, more) for at in range(many) for more in range(1, many - at + 1)]:
                    editor, model = Editor(machine, text), Model(machine, text)
                    editor.make(edit)
                    model.make((edit,))
                    self.check(editor, model)

    def test_places_that_are_near_both_ends(self):
        editor = Editor(ADDER, "ab")
        editor.make(("put", 1, "bab"))
        # All of the old text is a beginning of "ababb", so nothing is left for the end but the last place.
        self.assertEqual([editor.text, list(editor.news())], ["ababb", [(1, 0, 1), (2, 0, 1), (3, None, 0), (4, None, 0)]])
        self.assertEqual(list(editor.news()), news_too((ADDER, "ab"), (ADDER, "ababb")))
        editor = Editor(ADDER, "aa")
        editor.make(("put", 0, "a"))
        # Of the four places the last one is the old last one, and the place 2 counts as the place 2.
        self.assertEqual(list(editor.news()), [(2, 0, 1)])
        editor.make(("cut", 0, 3))
        self.assertEqual([list(editor.news()), editor.text], [[(0, 1, 0)], ""])

    def test_news_of_other_machines(self):
        two, three = counter(2, "ab", (0, 1)), counter(3, "ab", (0, 1, 2))
        first, second = random_machine(random.Random(1), two), random_machine(random.Random(2), three)
        editor = Editor(first, "abab")
        self.assertEqual(editor.make(("use", second)), 1)
        # Marks are compared as numbers: 0 1 0 1 0 and 1 0 2 1 0.
        self.assertEqual(list(editor.news()), [(0, 0, 1), (1, 1, 0), (2, 0, 2)])
        self.assertEqual(editor.make(("use", first), ("put", 0, "a"), ("use", second)), 2)
        self.assertEqual(list(editor.news()), news_too((second, "abab"), (second, "aabab")))
        self.assertEqual(editor.undo(many=2), 0)
        self.assertEqual(list(editor.news()), news_too((second, "aabab"), (first, "abab")))
        editor.make(("use", first))
        self.assertEqual(list(editor.news()), [])

    def test_news_are_those_of_the_last_call_when_the_first_one_is_asked_for(self):
        editor = Editor(ADDER, "abb")
        self.assertEqual(list(editor.news()), [])
        before = editor.news()
        editor.make(("cut", 0, 1))
        wanted = news_too((ADDER, "abb"), (ADDER, "bb"))
        self.assertEqual(list(before), wanted)
        self.assertEqual(list(before), [])
        held = editor.news()
        self.assertEqual(next(held), wanted[0])
        editor.make(("put", 2, "aaa"))
        self.assertEqual(list(held), wanted[1:])
        # A call that is refused is none, and many=0 leaves no news.
        self.refused(InvalidEdit, editor.make, ("cut", 0, 99))
        self.refused(NothingToUndo, editor.redo)
        self.refused(InvalidNumber, editor.undo, many=-1)
        self.assertEqual(list(editor.news()), news_too((ADDER, "bb"), (ADDER, "bbaaa")))
        self.assertEqual([editor.undo(many=0), list(editor.news())], [2, []])
        self.assertEqual([editor.undo(many=2), editor.redo(many=0), list(editor.news()), editor.redo(many=2), editor.text], [0, 0, [], 2, "bbaaa"])

    def test_a_step_is_made_as_a_whole_or_not(self):
        editor = Editor(ADDER, "ab")
        editor.make(("put", 0, "b"))
        before = (editor.text, editor.machine, editor.log, list(editor.news()), editor.marks, editor.words)
        for step in ((("put", 0, "a"), ("cut", 0, 9)), (("use", LASTER), ("put", 0, "c")), (("cut", 0, 3), ("cut", 0, 1)), (("put", 3, "a"), ("put", 5, "a")), (("cut", 0, 1), None)):
            self.refused(InvalidEdit, editor.make, *step)
            self.refused(InvalidEdit, editor.make_step, step)
            self.assertEqual((editor.text, editor.machine, editor.log, list(editor.news()), editor.marks, editor.words), before)
        # The numbers are those of the text that is there when the edit is reached.
        self.assertEqual(editor.make(("put", 3, "a"), ("put", 4, "b"), ("cut", 0, 4)), 2)
        self.assertEqual(editor.text, "b")
        self.assertEqual([editor.make_step((("cut", 0, 1), ("put", 0, "a"))), editor.text], [3, "a"])

    def test_undo_and_redo(self):
        editor = Editor(ADDER, "")
        for at in range(5):
            self.assertEqual(editor.make(("put", at, "ab"[at % 2])), at + 1)
        self.assertEqual([editor.undo(many=3), editor.text, editor.redo(), editor.text, editor.redo(many=2), editor.text], [2, "ab", 3, "aba", 5, "ababa"])
        editor.undo(many=4)
        steps = editor.log
        self.assertEqual(editor.make(("put", 0, "b")), 2)
        self.assertEqual(self.refused(NothingToUndo, editor.redo).many, 1)
        self.assertEqual(editor.log, steps + ((("put", 0, "b"),),))
        # A step that is refused does not end what can be made again.
        editor.undo()
        self.refused(InvalidEdit, editor.make, ("put", 9, "a"))
        self.assertEqual([editor.redo(), editor.text], [2, "ba"])

    def test_texts_of_60_letters(self):
        editor = Editor(ADDER, "b" * 59)
        self.assertEqual(editor.make(("put", 59, "a")), 1)
        self.assertEqual([len(editor), editor.result], [60, "b" * 60])
        self.assertEqual(list(editor.news()), [(place, 0, 1) for place in range(60)])
        for edit in (("put", 0, "a"), ("put", 60, "b"), ("put", 0, "a" * 60)):
            self.refused(InvalidEdit, editor.make, edit)
        editor.make(("cut", 0, 60), ("put", 0, "ab" * 30))
        self.assertEqual([editor.text, editor.result], ["ab" * 30, "ab" * 29 + "ba"])
        self.assertEqual([editor.undo(many=2), editor.text], [0, "b" * 59])
        self.refused(InvalidEdit, editor.make, ("put", 0, "aa"))

    def test_equal(self):
        one = Editor(ADDER, "ab")
        other = Editor(ADDER, "b")
        other.make(("put", 0, "a"))
        self.assertTrue(one == other)
        self.assertFalse(one != other)
        for beside in (Editor(ADDER, "a"), Editor(LASTER, "ab"), Editor(ADDER)):
            self.assertFalse(one == beside)
            self.assertTrue(one != beside)
        self.assertEqual(Editor(ADDER), Editor(early(ADD), ""))
        for value in any_values():
            self.assertIs(one == value, False)


class TestTrials(Refusals, unittest.TestCase):
    def told(self, editor):
        return (editor.text, editor.machine, editor.log, list(editor.news()), editor.marks, editor.words, editor.result)

    def edited(self):
        editor = Editor(ADDER, "abb")
        editor.make(("cut", 0, 1))
        editor.make(("put", 0, "ab"))
        editor.undo()
        return editor

    def test_trial(self):
        editor = self.edited()
        before = self.told(editor)
        with editor.trial() as same:
            self.assertIs(same, editor)
            same.make(("cut", 0, 2), ("use", LASTER))
            editor.make(("put", 0, "a"))
            self.assertEqual((editor.text, editor.machine), ("a", LASTER))
        self.assertEqual(self.told(editor), before)
        self.assertEqual([editor.redo(), editor.text], [2, "abbb"])

    def test_nested(self):
        editor = self.edited()
        before = self.told(editor)
        with editor.trial():
            editor.make(("put", 0, "b"))
            within = self.told(editor)
            with editor.trial() as same:
                same.undo(many=2)
                self.assertEqual(editor.attempt(lambda other: (other.make(("put", 0, "a")), other.text)), (1, "aabb"))
                self.assertEqual(editor.text, "abb")
            self.assertEqual(self.told(editor), within)
        self.assertEqual(self.told(editor), before)
        block = editor.trial()
        with block:
            editor.undo()
            # The same block once more, within itself.
            with block as same:
                self.assertIs(same, editor)
                editor.make(("put", 0, "b"))
            self.assertEqual(editor.text, "abb")
        self.assertEqual(self.told(editor), before)
        with block:
            editor.undo()
        self.assertEqual(self.told(editor), before)

    def test_what_counts_is_the_beginning_of_the_block(self):
        editor = self.edited()
        block = editor.trial()
        editor.make(("put", 0, "a"))
        before = self.told(editor)
        with block:
            editor.undo(many=2)
        self.assertEqual(self.told(editor), before)

    def test_errors_go_on(self):
        editor = self.edited()
        before = self.told(editor)
        with self.assertRaises(KeyError):
            with editor.trial():
                editor.make(("put", 0, "a"))
                raise KeyError("x")
        self.assertEqual(self.told(editor), before)

        def action(same):
            same.make(("put", 0, "b"))
            same.make(("put", 99, "b"))
        self.refused(InvalidEdit, editor.attempt, action)
        self.assertEqual(self.told(editor), before)
        self.refused(NothingToUndo, editor.attempt, lambda same: same.undo(many=7))
        self.assertEqual(self.told(editor), before)

    def test_attempt(self):
        editor = self.edited()
        before = self.told(editor)
        seen = []

        def action(same):
            seen.append(same)
            same.make(("put", 0, "a"))
            return same.result
        self.assertEqual(editor.attempt(action), Editor(ADDER, "abb").result)
        self.assertIs(seen[0], editor)
        self.assertEqual(self.told(editor), before)
        self.assertIsNone(editor.attempt(lambda same: None))

    def test_twin(self):
        editor = self.edited()
        twin = editor.twin()
        self.assertIsNot(twin, editor)
        self.assertIs(type(twin), Editor)
        self.assertEqual((self.told(twin), twin == editor), (self.told(editor), True))
        before = self.told(editor)
        self.assertEqual([twin.redo(), twin.text, twin.undo(many=2), twin.make(("use", LASTER))], [2, "abbb", 0, 1])
        self.assertEqual(self.told(editor), before)
        kept = self.told(twin)
        self.assertEqual([editor.redo(), editor.make(("put", 0, "a"))], [2, 3])
        self.assertEqual(self.told(twin), kept)
        with editor.trial():
            third = editor.twin()
            third.make(("cut", 0, 1))
            self.assertNotEqual(third, editor)
        self.assertEqual((third.text, editor.text), ("abbb", "aabbb"))


class TestRefusals(Refusals, unittest.TestCase):
    def test_machines_and_texts(self):
        for value in any_values():
            if not isinstance(value, TwoPass):
                self.refused(InvalidMachine, Editor, value)
                self.refused(InvalidMachine, Editor, value, None)
            wanted = None
            if not is_string_of_letters(value) or len(value) > 60:
                wanted = InvalidText
            elif value.strip("ab"):
                wanted = InvalidOperation
            self.same_as_told(wanted, Editor, ADDER, value)
        self.assertEqual(Editor(ADDER).text, "")

    def test_any_edit(self):
        for value in any_values() + [early(SWAP), ADDER]:
            for edit in (value, ("put", value, "a"), ("put", 0, value), ("cut", value, 1), ("cut", 0, value), ("use", value), (value, 0, "a"), ("put", 0, "a", value), ("put", value)):
                editor = Editor(ADDER, "aba")
                wanted = edited_too(ADDER, "aba", edit)
                if wanted is None:
                    self.refused(InvalidEdit, editor.make, edit)
                    self.refused(InvalidEdit, editor.make, ("use", LASTER), edit)
                    self.assertEqual((editor.text, editor.log), ("aba", ()))
                else:
                    self.assertEqual([editor.make(edit), editor.text, editor.machine, editor.log], [1, wanted[1], wanted[0], ((edit,),)])
            editor = Editor(ADDER, "aba")
            if type(value) is not tuple or not value or any(edited_too(ADDER, "aba", edit) is None for edit in value):
                self.refused(InvalidEdit, editor.make_step, value)
        self.refused(InvalidEdit, Editor(ADDER).make)
        self.refused(InvalidEdit, Editor(ADDER).make_step, ())
        self.refused(InvalidEdit, Editor(ADDER).make_step, [("put", 0, "a")])

    def test_letters_of_the_present_machine(self):
        wide = early(type(ADD).copying("abc"))
        editor = Editor(ADDER, "ab")
        self.refused(InvalidEdit, editor.make, ("put", 0, "c"))
        self.assertEqual(editor.make(("use", wide), ("put", 0, "c")), 1)
        self.refused(InvalidEdit, editor.make, ("use", ADDER))
        self.assertEqual(editor.make(("cut", 0, 1), ("use", ADDER)), 2)
        self.refused(InvalidEdit, editor.make, ("cut", 0, 2), ("use", wide), ("put", 0, "c"), ("use", ADDER))
        self.assertEqual(editor.text, "ab")

    def test_many(self):
        editor = Editor(ADDER, "ab")
        editor.make(("cut", 0, 1))
        for value in any_values():
            for call in (editor.undo, editor.redo):
                if not is_whole(value) or value < 0:
                    caught = self.refused(InvalidNumber, call, many=value)
                    self.assertIs(type(caught.value), type(value))
                elif value > 1:
                    self.assertEqual(self.refused(NothingToUndo, call, many=value).many, value)
        self.assertEqual([self.refused(NothingToUndo, editor.redo).many, editor.undo(), self.refused(NothingToUndo, editor.undo).many], [1, 0, 1])
        with self.assertRaises(TypeError):
            editor.undo(1)

    def test_nothing_gives_access(self):
        editor = Editor(ADDER, "ab")
        editor.make(("cut", 0, 1))
        for name in ("machine", "text", "result", "marks", "words", "log"):
            with self.assertRaises(AttributeError):
                setattr(editor, name, None)
        row = list(editor)
        row.append("z")
        editor.machine.begins.clear()
        editor.machine.steps.clear()
        self.assertEqual((editor.text, editor.result), ("b", "a"))
        for text in all_texts("ab", 3):
            self.assertEqual(Editor(ADDER, text).result, ADDER(text))


if __name__ == "__main__":
    unittest.main()
