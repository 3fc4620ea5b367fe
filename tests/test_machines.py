"""Two-pass machines: [0.16], [11.1], [11.2], [11.3], and module fewmarks.machines.machines."""
import random
import unittest

from fewmarks.base.results import result
from fewmarks.base.rewriters import Rewriter
from fewmarks.errors import InvalidMachine, InvalidNumber, InvalidOperation, InvalidRewriter, InvalidText, NotSingle, TooMany
from fewmarks.machines.early import early
from fewmarks.machines.machines import MAX_WRITER, TwoPass, does, is_machine_paper, machine_paper, refined
from fewmarks.machines.marks import Marks, least_marks, map_of
from fewmarks.pairs.single import is_single, is_single_paper
from helpers import (ADD, CHOICE, DROP, EMPTY, LAST, SWAP, TURNS, TWICE, Refusals, all_texts, any_values, is_whole, many_sets,
                     random_marks, random_word)
from second_ways import has_result_too, left_by_runs, left_over_too, result_too, sources_too
from test_marks import counter, mark_too
from test_papers import some_singles

STEPS = {(0, "b", 0): ("a", 0), (1, "a", 0): ("b", 0), (1, "a", 1): ("a", 1), (1, "b", 1): ("b", 1)}
LEAST = least_marks(ADD)
ADDER = TwoPass(LEAST, begins={0: ("", 0), 1: ("", 1)}, steps=STEPS, ends={0: ""})


def parts_of(machine):
    return machine.marks, machine.begins, machine.steps, machine.ends


def machine_of(parts):
    marks, begins, steps, ends = parts
    return TwoPass(marks, begins=begins, steps=steps, ends=ends)


def random_machine(chance, marks, *, most=3, long=3):
    """A machine with these marks and some states of any numbers."""
    numbers = chance.sample(range(1000), most * len(marks))
    states = {mark: [numbers.pop() for _ in range(chance.randint(1, most))] for mark in marks}

    def step(mark):
        return random_word(chance, long, "abz"), chance.choice(states[mark])
    begins = {mark: step(mark) for mark in marks.good}
    steps, ends = {}, {}
    waiting = [(begins[mark][1], mark) for mark in begins]
    for state, mark in waiting:
        if mark == 0:
            ends.setdefault(state, random_word(chance, long))
        for letter, behind in marks[mark]:
            if (state, letter, behind) not in steps:
                steps[(state, letter, behind)] = step(behind)
                waiting.append((steps[(state, letter, behind)][1], behind))
    rows = list(steps.items())
    chance.shuffle(rows)
    return TwoPass(marks, begins=begins, steps=dict(rows), ends=ends)


def random_machines(seed, many, **told):
    chance = random.Random(seed)
    return [random_machine(chance, marks, **told) for marks in random_marks(seed, many, most=4)]


def run_too(machine, text):
    """What is written for a text, step by step, or None."""
    mark = mark_too(machine.marks, text)
    if mark not in machine.begins:
        return None
    rows = [machine.begins[mark]]
    for at, letter in enumerate(text):
        rows.append(machine.steps[(rows[-1][1], letter, mark_too(machine.marks, text[at + 1:]))])
    return rows + [(machine.ends[rows[-1][1]], None)]


def word_too(machine, text):
    """The result of a text of any length and letters, or None."""
    rows = run_too(machine, text) if set(text) <= set(machine.letters) else None
    return None if rows is None else "".join(word for word, _ in rows)


def is_machine(parts):
    """Whether there is such a machine: all states that begins and steps give are followed, with their marks."""
    marks, begins, steps, ends = parts
    rows = [value for part in (begins, steps) for value in part.values()] if type(begins) is dict and type(steps) is dict else [None]
    if type(marks) is not Marks or type(ends) is not dict or not all(type(row) is tuple and len(row) == 2 for row in rows):
        return False
    words = [word for word, _ in rows] + list(ends.values())
    states = [state for _, state in rows] + list(ends)
    if not all(type(key) is tuple and len(key) == 3 and is_whole(key[2]) for key in steps):
        return False
    states += [key[0] for key in steps]
    if not all(type(word) is str and all("a" <= sign <= "z" for sign in word) for word in words):
        return False
    if not all(is_whole(state) and 0 <= state <= 999 for state in states) or not all(is_whole(mark) for mark in begins):
        return False
    if set(begins) != set(marks.good):
        return False
    met = {(state, mark) for mark, (_, state) in begins.items()}
    row = list(met)
    wanted = set()
    for state, mark in row:
        for letter, behind in marks[mark]:
            wanted.add((state, letter, behind))
            if (state, letter, behind) not in steps:
                return False
            after = (steps[(state, letter, behind)][1], behind)
            if after not in met:
                met.add(after)
                row.append(after)
    return (len({state for state, _ in met}) == len(met) and set(steps) == wanted
            and set(ends) == {state for state, mark in met if mark == 0})


def near_machines(chance, machine):
    """Parts that are nearly those of the machine, right or not."""
    marks, begins, steps, ends = parts_of(machine)
    rows = []
    for part in (1, 2, 3):
        table = parts_of(machine)[part]
        keys = chance.sample(sorted(table), min(len(table), 4))
        for key in keys:
            rows.append((part, {other: table[other] for other in table if other != key}))
            value = table[key]
            changes = ["b" + value, None, "A", 1] if part == 3 else [
                ("x", value[1]), (value[0], 999), (value[0], chance.choice(machine.states)), (value[0], 1000), (value[0], -1), list(value),
                (value[0], True), (None, value[1]), value + (0,), value[:1], ("Z", value[1]), (value[1], value[0])]
            rows += [(part, {**table, key: change}) for change in changes]
        value = table[keys[0]] if keys else ("" if part == 3 else ("", 0))
        extra = [0, 1, 5, 999, 1000, -1, None, "a", True] if part != 2 else [
            (state, letter, mark) for state in (0, 999, 1000, machine.states[0] if machine.states else 3, None, True)
            for letter in ("a", "z", "") for mark in (0, 1, len(marks), True)] + [(0, "a"), 0, None, ("a", 0, 0)]
        rows += [(part, {**table, key: value}) for key in extra]
        rows += [(part, list(table.items())), (part, None), (part, {})]
    parts = [tuple(table if at == part else old for at, old in enumerate(parts_of(machine))) for part, table in rows]
    parts += [(other, begins, steps, ends) for other in (None, "ab", marks.steps, machine, Marks(marks.letters, marks.steps, ()))]
    return parts


class TestTwoPass(Refusals, unittest.TestCase):
    def test_examples(self):
        self.assertEqual([ADDER("abb"), list(ADDER.walk("ab")), does(ADDER, ADD), ADDER.mark_of(1), str(ADDER)],
                         ['baa', [('', 1), ('b', 0), ('a', 0), ('', None)], True, 1, 'two passes with 2 marks and 2 states'])
        table = ("does", ((0, (1,)), (1, (0,))), {(0, 1): ("", ""), (1, 0): ("", "")})
        self.assertEqual([is_machine_paper(ADDER, ADD, table), ADDER.rewriter().edges[0], machine_paper(ADDER, SWAP)[0]],
                         [True, (0, 'b', 'a', 0), 'fails'])

    def test_everything_step_by_step(self):
        without = 0
        for machine in random_machines(140, 120) + [ADDER, early(LAST), early(SWAP), early(EMPTY)]:
            marks, begins, steps, ends = parts_of(machine)
            states = {state for _, state in list(begins.values()) + list(steps.values())}
            self.assertEqual(machine.states, tuple(sorted(states)))
            self.assertEqual(len(machine), len(states))
            self.assertIs(bool(machine), bool(marks.good))
            self.assertEqual(machine.letters, marks.letters)
            self.assertEqual(str(machine), f"two passes with {len(marks)} marks and {len(states)} states")
            for table in (begins, steps, ends):
                self.assertEqual(list(table), sorted(table))
            for text in all_texts(machine.letters, 3):
                rows = run_too(machine, text)
                self.assertEqual(list(machine.walk(text)), rows or [])
                self.assertEqual(machine(text), word_too(machine, text))
                for at, (_, state) in enumerate((rows or [])[:-1]):
                    self.assertEqual(machine.mark_of(state), mark_too(marks, text[at:]))
            without += len({machine.mark_of(state) for state in states}) < len(marks)
        self.assertGreater(without, 3)

    def test_long_texts(self):
        self.assertEqual(ADDER("a" + "b" * 59), "b" + "a" * 59)
        self.assertEqual(len(list(early(LAST).walk("ab" * 30))), 62)
        for value in any_values():
            wanted = None
            if not isinstance(value, str) or value.strip("abcdefghijklmnopqrstuvwxyz") or len(value) > 60:
                wanted = InvalidText
            elif value.strip("ab"):
                wanted = InvalidOperation
            self.same_as_told(wanted, ADDER, value)
            ADDER.walk(value)
            self.same_as_told(wanted, list, ADDER.walk(value)) if wanted is None else self.refused(wanted, next, ADDER.walk(value))

    def test_walk_goes_step_by_step(self):
        walk = ADDER.walk("ab")
        self.assertIs(iter(walk), walk)
        self.assertEqual([next(walk), next(walk)], [("", 1), ("b", 0)])
        self.assertEqual(list(TwoPass(counter(2, "a", (1,)), begins={1: ("", 0)}, ends={1: "z"},
                                      steps={(0, "a", 0): ("x", 1), (1, "a", 1): ("y", 0)}).walk("aa")), [])

    def test_numbers_of_states(self):
        for value in any_values():
            right = is_whole(value) and value in (0, 1)
            self.same_as_told(None if right else (InvalidNumber, value), ADDER.mark_of, value)
        far = TwoPass(LEAST, begins={0: ("", 999), 1: ("", 3)}, ends={999: ""},
                      steps={({0: 999, 1: 3}[state], letter, mark): (word, {0: 999, 1: 3}[after]) for (state, letter, mark), (word, after) in STEPS.items()})
        self.assertEqual([far.states, far.mark_of(999), far.mark_of(3), far.numbered()], [(3, 999), 0, 1, ADDER])
        self.refused(InvalidNumber, far.mark_of, 0)
        self.assertEqual(far.rewriter().starts, {0: "", 1: ""})
        self.assertEqual((far.rewriter().ends, far.rewriter().edges[0]), ({1: ""}, (0, "a", "a", 0)))

    def test_numbered_as_met(self):
        for machine in random_machines(141, 80) + [ADDER]:
            row = [machine.begins[mark][1] for mark in machine.marks.good]
            for state in row:
                row += [after for (before, _, _), (_, after) in sorted(machine.steps.items()) if before == state and after not in row]
            row = list(dict.fromkeys(row))
            numbers = {state: at for at, state in enumerate(row)}
            same = machine.numbered()
            self.assertEqual(same.states, tuple(range(len(machine))))
            self.assertEqual(same.marks, machine.marks)
            self.assertEqual(same.begins, {mark: (word, numbers[state]) for mark, (word, state) in machine.begins.items()})
            self.assertEqual(same.steps, {(numbers[state], letter, mark): (word, numbers[after])
                                          for (state, letter, mark), (word, after) in machine.steps.items()})
            self.assertEqual(same.ends, {numbers[state]: word for state, word in machine.ends.items()})
            self.assertEqual(same.numbered(), same)

    def test_rewriter(self):
        checked = 0
        for machine in random_machines(142, 120, most=2) + [ADDER, early(SWAP), early(EMPTY)]:
            if len(machine) > 12:
                self.assertEqual(self.refused(TooMany, machine.rewriter).limit, 12)
            elif len(machine.steps) > 64:
                self.assertEqual(self.refused(TooMany, machine.rewriter).limit, 64)
            else:
                numbers = {state: at for at, state in enumerate(machine.states)}
                made = machine.rewriter()
                self.assertEqual(made.states, tuple(range(len(machine))))
                self.assertEqual(made.starts, {numbers[state]: word for word, state in sorted(machine.begins.values(), key=lambda step: step[1])})
                self.assertEqual(set(made.edges), {(numbers[state], letter, word, numbers[after])
                                                   for (state, letter, _), (word, after) in machine.steps.items()})
                self.assertEqual(made.ends, {numbers[state]: word for state, word in machine.ends.items()})
                self.assertTrue(is_single(made))
                for text in all_texts(machine.letters, 3):
                    self.assertEqual(result(made, text), machine(text))
                checked += 1
        self.assertGreater(checked, 60)

    def test_bounds_of_rewriters_in_their_order(self):
        def around(many, letters, word):
            marks = counter(many, letters)
            steps = {(at, letter, (at - 1) % many): ("", (at - 1) % many) for at in range(many) for letter in letters}
            return TwoPass(marks, begins={0: (word, 0)}, steps=steps, ends={0: ""})
        self.assertEqual(len(around(12, "abcd", "a" * 8).rewriter()), 48)
        self.assertEqual(self.refused(TooMany, around(13, "abcd", "a" * 9).rewriter).limit, 12)
        self.assertEqual(self.refused(TooMany, around(12, "abcd", "a" * 9).rewriter).limit, 8)
        wide = Marks("abcd", {(letter, mark): at for mark in range(4) for at, letter in enumerate("abcd")}, (0, 1, 2, 3))
        chance = random.Random(143)
        limits = set()
        for _ in range(60):
            machine = random_machine(chance, wide, most=5, long=9)
            longest = max(len(word) for word in [word for word, _ in list(machine.begins.values()) + list(machine.steps.values())] + list(machine.ends.values()))
            limit = 12 if len(machine) > 12 else 64 if len(machine.steps) > 64 else 8 if longest > 8 else None
            limits.add(limit)
            if limit is None:
                machine.rewriter()
            else:
                self.assertEqual(self.refused(TooMany, machine.rewriter).limit, limit)
        self.assertTrue({12, 8} <= limits)
        # Seven pairs of a letter and a mark lead to the mark 0, so ten states for it have seventy steps.
        full = Marks("abcd", {(letter, mark): 1 if (letter, mark) == ("a", 0) else 0 for letter in "abcd" for mark in range(2)}, (0,))
        for many, limit in ((9, 8), (10, 64), (11, 64), (12, 12)):
            steps = {(at, letter, behind): ("a" * 9, (at + 1) % many if behind == 0 else many) for at in range(many) for letter, behind in full[0]}
            machine = TwoPass(full, begins={0: ("", 0)}, steps={**steps, (many, "a", 0): ("", 0)}, ends={at: "" for at in range(many)})
            self.assertEqual((len(machine), len(machine.steps)), (many + 1, 7 * many + 1))
            self.assertEqual(self.refused(TooMany, machine.rewriter).limit, limit)

    def test_equality(self):
        for value in any_values() + [early(LAST), LEAST]:
            self.assertIs(ADDER == value, False)
            self.assertIs(ADDER != value, True)
        self.assertTrue(ADDER == TwoPass(LEAST, begins={1: ("", 1), 0: ("", 0)}, steps=dict(reversed(STEPS.items())), ends={0: ""}))
        for other in (TwoPass(LEAST, begins={0: ("", 0), 1: ("x", 1)}, steps=STEPS, ends={0: ""}),
                      TwoPass(LEAST, begins={0: ("", 0), 1: ("", 1)}, steps={**STEPS, (0, "b", 0): ("", 0)}, ends={0: ""}),
                      TwoPass(LEAST, begins={0: ("", 0), 1: ("", 1)}, steps=STEPS, ends={0: "x"}),
                      TwoPass(Marks("ab", LEAST.steps, (1,)), begins={1: ("", 1)}, steps=STEPS, ends={0: ""})):
            self.assertTrue(ADDER != other and not ADDER == other)

    def test_nothing_gives_access(self):
        begins, steps, ends = {0: ("", 0), 1: ("", 1)}, dict(STEPS), {0: ""}
        machine = TwoPass(LEAST, begins=begins, steps=steps, ends=ends)
        begins[0] = ("x", 1)
        steps.clear()
        ends[7] = "x"
        machine.begins[0] = ("y", 1)
        machine.steps.clear()
        machine.ends[0] = "z"
        machine.marks.steps.clear()
        self.assertEqual(machine, ADDER)
        self.assertEqual([machine("abb"), MAX_WRITER], ["baa", 1000])
        with self.assertRaises(TypeError):
            iter(machine)
        with self.assertRaises(TypeError):
            TwoPass(LEAST, begins, steps, ends)

    def test_no_good_marks(self):
        none = TwoPass(Marks("ab", LEAST.steps, ()), begins={}, steps={}, ends={})
        for marks in (counter(2, "ab", ()), counter(2, "bc", ()), counter(1, "ab", ())):
            self.assertFalse(none == TwoPass(marks, begins={}, steps={}, ends={}))
        self.assertEqual([len(none), bool(none), none.states, none("ab"), list(none.walk("")), str(none), none.rewriter().states, none.numbered() == none],
                         [0, False, (), None, [], "two passes with 2 marks and 0 states", (), True])


class TestNoMachines(Refusals, unittest.TestCase):
    def test_nearly_machines(self):
        chance = random.Random(144)
        right = wrong = 0
        for machine in random_machines(145, 60) + [ADDER, early(SWAP), early(LAST), early(DROP), early(EMPTY)]:
            for parts in near_machines(chance, machine):
                wanted = is_machine(parts)
                self.same_as_told(None if wanted else InvalidMachine, machine_of, parts)
                right += wanted
                wrong += not wanted
        self.assertGreater(right, 300)
        self.assertGreater(wrong, 3000)

    def test_one_fault_each(self):
        begins, ends = {0: ("", 0), 1: ("", 1)}, {0: ""}
        wrong = [({0: ("", 0)}, STEPS, ends), ({**begins, 2: ("", 0)}, STEPS, ends), ({0: ("", 1), 1: ("", 0)}, STEPS, ends),
                 ({0: ("", 0), 1: ("", 0)}, STEPS, ends), ({0: ("", 0), True: ("", 1)}, STEPS, ends), ({False: ("", 0), 1: ("", 1)}, STEPS, ends),
                 ({0: ("", False), 1: ("", 1)}, STEPS, ends), (begins, STEPS, {}), (begins, STEPS, {0: "", 1: ""}), (begins, STEPS, {1: ""}),
                 (begins, STEPS, {False: ""}), (begins, {**STEPS, (0, "a", 0): ("", 0)}, ends), (begins, {**STEPS, (1, "b", 0): ("", 0)}, ends),
                 (begins, {**STEPS, (1, "a", 0): ("b", 1)}, ends), (begins, {**STEPS, (1, "a", 1): ("", 0)}, ends),
                 (begins, {**STEPS, (1, "a", 1): ("", 2)}, ends), (begins, {**STEPS, (2, "b", 0): ("", 0)}, {0: "", 2: ""}),
                 (begins, {**STEPS, (1, "a", 1): ("", True)}, ends), (begins, {**STEPS, (1, "a", 1): ["", 1]}, ends),
                 (begins, {(True if key[0] == 1 else 0, key[1], key[2]): step for key, step in STEPS.items()}, ends),
                 (begins, {(key[0], key[1], bool(key[2])): step for key, step in STEPS.items()}, ends),
                 ([(0, ("", 0))], STEPS, ends), (begins, list(STEPS), ends), (begins, STEPS, [0]), (begins, STEPS, {0: "A"}), (begins, STEPS, {0: ()})]
        wrong += [(begins, {key: step for key, step in STEPS.items() if key != left_out}, ends) for left_out in STEPS]
        # A state for the mark 0 to which nothing leads, with all that it needs.
        wrong.append((begins, {**STEPS, (5, "b", 0): ("", 5)}, {0: "", 5: ""}))
        for parts in wrong:
            self.refused(InvalidMachine, machine_of, (LEAST,) + parts)
        for value in any_values():
            if not isinstance(value, Marks):
                self.refused(InvalidMachine, machine_of, (value, begins, STEPS, ends))
            for at in range(3):
                parts = (LEAST,) + (begins, STEPS, ends)[:at] + (value,) + (begins, STEPS, ends)[at + 1:]
                self.same_as_told(None if is_machine(parts) else InvalidMachine, machine_of, parts)
        self.assertEqual(machine_of((LEAST, begins, STEPS, {0: "a" * 500}))(""), "a" * 500)

    def test_1000_states_exactly(self):
        marks = counter(1, "a")
        steps = {(at, "a", 0): ("", (at + 1) % 1000) for at in range(1000)}
        machine = TwoPass(marks, begins={0: ("", 0)}, steps=steps, ends={at: "" for at in range(1000)})
        self.assertEqual([len(machine), machine.mark_of(999)], [1000, 0])
        more = {**steps, (999, "a", 0): ("", 1000), (1000, "a", 0): ("", 0)}
        self.refused(InvalidMachine, machine_of, (marks, {0: ("", 0)}, more, {at: "" for at in range(1001)}))


class TestRefined(Refusals, unittest.TestCase):
    def test_same_results(self):
        chance = random.Random(150)
        made = 0
        for machine in random_machines(151, 60) + [ADDER, early(LAST), early(SWAP)]:
            coarse = machine.marks
            for _ in range(3):
                # Marks beside those of the machine: pairs of a mark of the machine and one of others.
                beside = random_marks(chance.randrange(10 ** 6), 1, most=3, letters=coarse.letters)[0]
                numbers, row = {(0, 0): 0}, [(0, 0)]
                steps = {}
                for one, two in row:
                    for letter in coarse.letters:
                        after = (coarse.steps[(letter, one)], beside.steps[(letter, two)])
                        if after not in numbers:
                            numbers[after] = len(row)
                            row.append(after)
                        steps[(letter, numbers[(one, two)])] = numbers[after]
                order = list(range(1, len(row)))
                chance.shuffle(order)
                order = [0] + order
                fine = Marks(coarse.letters, {(letter, order[at]): order[after] for (letter, at), after in steps.items()},
                             tuple(sorted(order[numbers[pair]] for pair in row if pair[0] in coarse.good)))
                self.check(machine, fine)
                made += len(fine) > len(coarse)
        self.assertGreater(made, 80)

    def check(self, machine, fine):
        found = refined(machine, fine)
        self.assertIs(type(found), TwoPass)
        self.assertEqual(found.marks, fine)
        self.assertEqual(found.numbered(), found)
        image = map_of(fine, machine.marks)
        same = {}
        for text in all_texts(machine.letters, 3):
            self.assertEqual([word for word, _ in found.walk(text)], [word for word, _ in machine.walk(text)])
            for (_, state), (_, old) in zip(found.walk(text), machine.walk(text)):
                if state is not None:
                    # Each state is one pair of a state and a mark.
                    self.assertEqual(image[found.mark_of(state)], machine.mark_of(old))
                    self.assertEqual(same.setdefault(state, (old, found.mark_of(state))), (old, found.mark_of(state)))
        self.assertEqual(len(set(same.values())), len(same))

    def test_the_same_marks_and_one_mark_twice(self):
        for machine in random_machines(152, 30):
            self.assertEqual(refined(machine, machine.marks), machine.numbered())
        ends = Marks("a", {("a", 0): 1, ("a", 1): 1}, (0, 1))
        found = refined(early(DROP), ends)
        self.assertEqual((found.begins, found.steps, found.ends),
                         ({0: ("", 0), 1: ("", 1)}, {(1, "a", 0): ("", 2), (1, "a", 1): ("", 3), (3, "a", 0): ("a", 2), (3, "a", 1): ("a", 3)}, {0: "", 2: ""}))

    def test_marks_that_do_not_fit(self):
        for value in any_values():
            if not isinstance(value, TwoPass):
                self.refused(InvalidMachine, refined, value, None)
                self.refused(InvalidMachine, refined, value, LEAST)
            if not isinstance(value, Marks):
                self.refused(InvalidMachine, refined, ADDER, value)
        self.refused(InvalidOperation, refined, ADDER, counter(2, "a", (0, 1)))
        self.refused(InvalidOperation, refined, ADDER, counter(2, "ab", (0, 1)))
        for letters in ("a", "abc", "ac"):
            # Unlike letters, though all else fits.
            steps = {(letter, mark): 1 if letter == "a" else mark for letter in letters for mark in (0, 1)}
            self.refused(InvalidOperation, refined, ADDER, Marks(letters, steps, (0, 1)))
        self.assertEqual(refined(ADDER, Marks("ab", {("a", 0): 1, ("a", 1): 1, ("b", 0): 0, ("b", 1): 1}, (0, 1))), ADDER)
        self.refused(InvalidOperation, refined, ADDER, least_marks(SWAP))
        for good in ((), (0,), (1,)):
            self.refused(InvalidOperation, refined, ADDER, Marks("ab", LEAST.steps, good))
        none = TwoPass(Marks("ab", LEAST.steps, (1,)), begins={1: ("", 1)}, steps=STEPS, ends={0: ""})
        for good in ((), (0,), (0, 1)):
            self.refused(InvalidOperation, refined, none, Marks("ab", LEAST.steps, good))
        self.assertEqual(refined(none, Marks("ab", LEAST.steps, (1,)))("ab"), "ba")

    def test_more_than_1000_states(self):
        def around(many):
            steps = {(at, "a", 0): ("", (at + 1) % many) for at in range(many)}
            return TwoPass(counter(1, "a"), begins={0: ("", 0)}, steps=steps, ends={at: "" for at in range(many)})
        self.assertEqual(len(refined(around(4), counter(250, "a", tuple(range(250))))), 1000)
        self.assertEqual(self.refused(TooMany, refined, around(143), counter(7, "a", tuple(range(7)))).limit, 1000)
        self.assertEqual(self.refused(TooMany, refined, around(1000), counter(2, "a", (0, 1))).limit, 1000)
        self.refused(InvalidOperation, refined, around(1000), counter(2, "a", (0,)))


def live_too(machine, rewriter):
    """All pairs (state of the rewriter, state of the machine) on rows of common steps from begins to ends."""
    forth = {(p, step[1]) for p in rewriter.starts for step in machine.begins.values()}
    moves = {}
    row = list(forth)
    for p, s in row:
        moves[(p, s)] = [((edge, word), (edge[3], after)) for edge in rewriter.edges if edge[0] == p
                         for (state, letter, _), (word, after) in machine.steps.items() if state == s and letter == edge[1]]
        new = [after for _, after in moves[(p, s)] if after not in forth]
        row += list(dict.fromkeys(new))
        forth |= set(new)
    live = {(p, s) for p, s in row if p in rewriter.ends and s in machine.ends}
    more = True
    while more:
        more = {pair for pair in row if pair not in live and any(after in live for _, after in moves[pair])}
        live |= more
    return live, {pair: [move for move in moves[pair] if move[1] in live] for pair in live}


def is_right_paper(machine, rewriter, paper):
    """Whether a paper of right kinds of values is right, told as [11.3] tells it."""
    if paper[0] == "fails":
        return word_too(machine, paper[1]) != result_too(rewriter, paper[1])
    _, pairs, delays = paper
    if (0, left_by_runs(rewriter, "")) not in pairs or list(pairs) != sorted(set(pairs)):
        return False
    for mark, states in pairs:
        if (mark in machine.marks.good) != bool(set(states) & set(rewriter.starts)):
            return False
        if any((machine.marks.steps[(letter, mark)], sources_too(rewriter, states, letter)) not in pairs for letter in rewriter.letters):
            return False
    live, moves = live_too(machine, rewriter)
    if set(delays) != live:
        return False
    begins = {state: word for word, state in machine.begins.values()}
    for pair in live:
        x, y = delays[pair]
        p, s = pair
        if p in rewriter.starts and s in begins and left_over_too(rewriter.starts[p], begins[s]) != (x, y):
            return False
        if p in rewriter.ends and s in machine.ends and left_over_too(x + rewriter.ends[p], y + machine.ends[s]) != ("", ""):
            return False
        if any(left_over_too(x + edge[2], y + word) != delays[after] for (edge, word), after in moves[pair]):
            return False
    return True


def other_rewriters(chance, rewriter):
    """Rewriters with another word, or with an edge, a start or an end less."""
    letters, starts, edges, ends = rewriter.letters, rewriter.starts, rewriter.edges, rewriter.ends
    made = [Rewriter(letters, starts, tuple(edge for edge in edges if edge != left_out), ends) for left_out in edges[:3]]
    made += [Rewriter(letters, {state: starts[state] for state in starts if state != left_out}, edges, ends) for left_out in starts]
    made += [Rewriter(letters, starts, edges, {state: ends[state] for state in ends if state != left_out}) for left_out in ends]
    if edges:
        at = chance.randrange(len(edges))
        state, letter, word, after = edges[at]
        made.append(Rewriter(letters, starts, edges[:at] + ((state, letter, (word + "q")[-8:], after),) + edges[at + 1:], ends))
    made += [Rewriter(letters, {**starts, state: (starts[state] + "q")[-8:]}, edges, ends) for state in list(starts)[:1]]
    made += [Rewriter(letters, starts, edges, {**ends, state: (ends[state] + "q")[-8:]}) for state in list(ends)[:1]]
    return [other for other in made if is_single(other)]


class TestPapers(Refusals, unittest.TestCase):
    def check(self, machine, rewriter):
        paper = machine_paper(machine, rewriter)
        self.assertTrue(is_right_paper(machine, rewriter, paper), (machine.steps, rewriter.edges, paper))
        self.assertIs(is_machine_paper(machine, rewriter, paper), True)
        self.assertIs(does(machine, rewriter), paper[0] == "does")
        self.assertEqual(len(paper), 3 if paper[0] == "does" else 2)
        unlike = [text for text in all_texts(rewriter.letters, 4) if word_too(machine, text) != result_too(rewriter, text)]
        for text in all_texts(rewriter.letters, 3):
            self.assertIs(is_machine_paper(machine, rewriter, ("fails", text)), text in unlike)
        if paper[0] == "does":
            self.assertEqual(unlike, [])
            self.assertEqual(list(paper[2]), sorted(paper[2]))
        return paper[0]

    def test_machines_that_do_it_and_others(self):
        chance = random.Random(160)
        kinds = []
        for rewriter in some_singles(161)[:60] + [LAST, ADD, SWAP, DROP, TURNS, EMPTY]:
            machine = early(rewriter)
            self.assertEqual(self.check(machine, rewriter), "does")
            for other in other_rewriters(chance, rewriter):
                kinds.append(self.check(machine, other))
        self.assertGreater(kinds.count("fails"), 100)

    def test_machines_with_any_states(self):
        kinds = []
        for machine in random_machines(162, 60, most=2):
            if len(machine) <= 12 and len(machine.steps) <= 64:
                rewriter = machine.rewriter()
                self.assertEqual(self.check(machine, rewriter), "does")
                marks, begins, steps, ends = parts_of(machine)
                for key in list(steps)[:2]:
                    near = machine_of((marks, begins, {**steps, key: (steps[key][0] + "q", steps[key][1])}, ends))
                    kinds.append(self.check(near, rewriter))
                other = Marks(marks.letters, marks.steps, marks.good[1:])
                if not other.good:
                    kinds.append(self.check(machine_of((other, {}, {}, {})), rewriter))
        self.assertGreater(kinds.count("fails"), 30)

    def test_papers_of_a_foreign_hand(self):
        table = {(0, 1): ("", ""), (1, 0): ("", "")}
        pairs = ((0, (1,)), (1, (0,)))
        for right in (pairs, ((0, (0, 1)), (0, (1,)), (1, (0,))), ((0, (0, 1)), (0, (1,)), (1, (0,)), (1, (0, 1)))):
            self.assertTrue(is_machine_paper(ADDER, ADD, ("does", right, table)), right)
        self.assertTrue(is_machine_paper(ADDER, ADD, ("does", pairs, dict(reversed(table.items())))))
        for wrong in (pairs[:1], pairs[1:], pairs[::-1], pairs + pairs[1:], list(pairs), ((0, [1]), (1, (0,))), ([0, (1,)], (1, (0,))),
                      ((False, (1,)), (1, (0,))), ((0, (1,)), (True, (0,))), ((0, (True,)), (1, (0,))), ((0, (1,)), (1, (False,))),
                      pairs + ((2, (0,)),), ((0, ()),) + pairs, ((-1, (0,)),) + pairs, pairs + ((1, (1, 0)),), pairs + ((1, (2,)),),
                      ((0, (1,)), (1, (0,)), (1,)), (), None, {0: (1,)}, ((0, (0,)),) + pairs[1:]):
            self.assertFalse(is_machine_paper(ADDER, ADD, ("does", wrong, table)), wrong)
        self.assertTrue(is_machine_paper(ADDER, ADD, ("does", ((0, (0,)),) + pairs, table)))
        for wrong in ({(0, 1): ("", "")}, {(1, 0): ("", "")}, {**table, (0, 0): ("", "")}, {**table, (1, 1): ("", "")}, {**table, (5, 5): ("", "")},
                      {(0, True): ("", ""), (1, 0): ("", "")}, {(0, 1): ("", ""), (True, 0): ("", "")}, {(0, 1): ("a", ""), (1, 0): ("", "")},
                      {(0, 1): ["", ""], (1, 0): ("", "")}, {(0, 1): ("", "", ""), (1, 0): ("", "")}, {**table, (0, 1): ("a", "a")}, {**table, (1, 0): ("", "a")},
                      list(table.items()), (), None, {}, {**table, (0, 1): None}, {(1, 0): ("", ""), (0, 1, 0): ("", "")}):
            self.assertFalse(is_machine_paper(ADDER, ADD, ("does", pairs, wrong)), wrong)
        for wrong in (["does", pairs, table], ("does", pairs), ("does", pairs, table, ()), ("fails", pairs, table), ("single", table), ("fails", ""),
                      ("fails", "ab"), ("fails", "c"), ("fails", "a" * 100), ("fails",), ("fails", None), ("fails", ["a"]), "fails"):
            self.assertFalse(is_machine_paper(ADDER, ADD, wrong), wrong)
        for kind in ("does", "unlike", "text", "", None, 0, True, ()):
            self.assertFalse(is_machine_paper(ADDER, SWAP, (kind, "a")))
        for text, wanted in (("a", True), ("b", True), ("", False), ("ab", False), ("a" * 101, True), ("abc", False), ("c", False), ("a" * 61 + "A", False)):
            self.assertIs(is_machine_paper(ADDER, SWAP, ("fails", text)), wanted, text)
        for value in any_values():
            for paper in (value, ("fails", value), ("does", value, table), ("does", pairs, value), ("does", pairs, {**table, (0, 1): value})):
                same = isinstance(value, tuple) and value == ("", "")
                self.assertIs(is_machine_paper(ADDER, ADD, paper), same and paper[0] == "does" and isinstance(paper[2], dict) and len(paper) == 3
                              and paper[1] is pairs, paper)

    def test_bent_papers(self):
        bent = 0
        for rewriter in some_singles(163)[:50] + [LAST, SWAP, DROP, TURNS]:
            machine = early(rewriter)
            _, pairs, delays = machine_paper(machine, rewriter)
            rows = [("does", pairs[:at] + pairs[at + 1:], delays) for at in range(len(pairs))]
            rows += [("does", pairs, {key: delays[key] for key in delays if key != left_out}) for left_out in delays]
            rows += [("does", pairs, {**delays, key: other}) for key in delays for other in (("", ""), ("a", ""), ("", "b"), ("a", "b"))]
            rows += [("does", pairs, {**delays, (p, s): ("", "")}) for p in rewriter.states for s in machine.states]
            rows += [("does", tuple(sorted(set(pairs) | {(mark, states)})), delays) for mark in machine.marks for states in ((), (0,), rewriter.states)
                     if set(states) <= set(rewriter.states)]
            for paper in rows:
                wanted = is_right_paper(machine, rewriter, paper)
                self.assertIs(is_machine_paper(machine, rewriter, paper), wanted, paper)
                bent += not wanted
        self.assertGreater(bent, 1000)

    def test_big_machines(self):
        marks = counter(4, "ab", (0, 1, 2, 3))
        copy = Rewriter.copying("ab")
        states = {mark: range(250 * mark, 250 * mark + 250) for mark in marks}
        steps = {(state, letter, behind): (letter, states[behind][(state + (letter == "b")) * 7 % 250])
                 for mark in marks for state in states[mark] for letter, behind in marks[mark]}
        begins = {mark: ("", states[mark][0]) for mark in marks}
        met = set()
        waiting = [step[1] for step in begins.values()]
        while waiting:
            state = waiting.pop()
            if state not in met:
                met.add(state)
                waiting += [steps[(state, letter, behind)][1] for letter, behind in marks[state // 250]]
        machine = TwoPass(marks, begins=begins, steps={key: step for key, step in steps.items() if key[0] in met},
                          ends={state: "" for state in met if state < 250})
        self.assertGreater(len(machine), 300)
        self.assertTrue(does(machine, copy))
        self.assertTrue(is_machine_paper(machine, copy, machine_paper(machine, copy)))
        self.assertFalse(does(machine, ADD))


class TestRefusals(Refusals, unittest.TestCase):
    CALLS = ((does, ()), (machine_paper, ()), (is_machine_paper, (None,)))

    def test_arguments_in_their_order(self):
        for call, last in self.CALLS:
            for value in any_values():
                if not isinstance(value, TwoPass):
                    self.refused(InvalidMachine, call, value, None, *last)
                    self.refused(InvalidMachine, call, value, ADD, *last)
                if not isinstance(value, Rewriter):
                    self.refused(InvalidRewriter, call, ADDER, value, *last)
            self.refused(InvalidMachine, call, LEAST, ADD, *last)
            self.refused(InvalidOperation, call, ADDER, DROP, *last)
            # Unlike letters are told ahead of two results.
            self.refused(InvalidOperation, call, ADDER, CHOICE, *last)

    def test_two_results_and_many_rest_sets(self):
        more, exactly = many_sets(more=True), many_sets()
        both = Rewriter("abcd", more.starts, more.edges + ((0, "d", "a", 0),), more.ends)
        four = early(Rewriter.copying("abcd"))
        for call, last in self.CALLS:
            for machine, rewriter in ((ADDER, TWICE), (four, both), (early(DROP), CHOICE)):
                paper = self.refused(NotSingle, call, machine, rewriter, *last).paper
                self.assertTrue(is_single_paper(rewriter, paper))
                self.assertEqual(paper[0], "two")
            self.assertEqual(self.refused(TooMany, call, four, more, *last).limit, 256)
            self.refused(InvalidOperation, call, ADDER, both, *last)
            call(four, exactly, *last)
        self.assertFalse(does(four, exactly))
        self.assertTrue(has_result_too(exactly, ""))


if __name__ == "__main__":
    unittest.main()
