"""One pass: [14.1], [14.2], [14.3], [0.18], [0.22], [0.23], and module fewmarks.passes.onepass."""
import random
import unittest

from fewmarks.base.rewriters import Rewriter
from fewmarks.errors import InvalidMachine, InvalidOperation, InvalidRewriter, InvalidText, NeedsMarks, NotSingle, TooMany
from fewmarks.machines.equal import have_equal_results
from fewmarks.pairs.single import is_single_paper
from fewmarks.passes.onepass import OnePass, is_once_paper, is_one_pass, once_paper, one_pass
from fewmarks.rests.forks import fork, is_fork
from helpers import (ADD, CHOICE, DROP, EMPTY, LAST, SWAP, TURNS, TWICE, Refusals, all_texts, any_values, is_string_of_letters,
                     is_whole, many_sets, random_singles, random_word, raw_of)
from second_ways import left_over_too, led_to_too, loud_too, reached_steps_too, result_too, wild_too
from test_early import LATE, beginning_of, dropping, long_rests
from test_forks import EXAMPLE, bent_forks
from test_papers import some_singles


def useful_too(begin, steps, ends):
    """The states that are met from the begin and lead to ends."""
    met = set() if begin is None else {begin[1]}
    for _ in range(len(steps) + 1):
        met |= {after for (state, _), (_, after) in steps.items() if state in met}
    back = set(ends)
    for _ in range(len(steps) + 1):
        back |= {state for (state, _), (_, after) in steps.items() if after in back}
    return met & back


def trimmed(letters, begin, steps, ends):
    """The parts of a writer, of which what is not useful is left out."""
    useful = useful_too(begin, steps, ends)
    if not useful:
        return letters, None, {}, {}
    return (letters, begin, {key: step for key, step in steps.items() if key[0] in useful and step[1] in useful},
            {state: word for state, word in ends.items() if state in useful})


def writer_of(parts):
    letters, begin, steps, ends = parts
    return OnePass(letters, begin=begin, steps=steps, ends=ends)


def parts_of(writer):
    return writer.letters, writer.begin, writer.steps, writer.ends


def random_parts(chance, *, most=6, long=3, gaps=0.25):
    """The parts of some writer with states of any numbers."""
    letters = chance.choice(("a", "ab", "bz", "abc", "abcd"))
    names = chance.sample(range(1000), chance.randint(1, most)) + [chance.choice((0, 999))]
    steps = {(name, letter): (random_word(chance, long), chance.choice(names)) for name in names for letter in letters
             if chance.random() > gaps}
    ends = {name: random_word(chance, long) for name in names if chance.random() < 0.5}
    rows = list(steps.items())
    chance.shuffle(rows)
    return trimmed(letters, (random_word(chance, long), chance.choice(names)), dict(rows), ends)


def random_all_parts(seed, many, **told):
    chance = random.Random(seed)
    return [random_parts(chance, **told) for _ in range(many)]


def run_too(parts, text):
    """What is written for a text, step by step, or None."""
    _, begin, steps, ends = parts
    if begin is None:
        return None
    rows = [begin]
    for letter in text:
        if (rows[-1][1], letter) not in steps:
            return None
        rows.append(steps[(rows[-1][1], letter)])
    return rows + [(ends[rows[-1][1]], None)] if rows[-1][1] in ends else None


def is_writer(parts):
    """Whether there is such a writer, told in another way than by the package."""
    letters, begin, steps, ends = parts

    def is_state(value):
        return is_whole(value) and 0 <= value <= 999

    def is_step(value):
        return type(value) is tuple and len(value) == 2 and is_string_of_letters(value[0]) and is_state(value[1])
    if not is_string_of_letters(letters) or not 1 <= len(letters) <= 4 or sorted(set(letters)) != list(letters):
        return False
    if begin is not None and not is_step(begin) or type(steps) is not dict or type(ends) is not dict:
        return False
    for key, step in steps.items():
        if type(key) is not tuple or len(key) != 2 or not is_state(key[0]) or not is_step(step):
            return False
        if type(key[1]) is not str or len(key[1]) != 1 or key[1] not in letters:
            return False
    if not all(is_state(state) and is_string_of_letters(word) for state, word in ends.items()):
        return False
    states = {state for state, _ in steps} | {state for _, state in steps.values()} | set(ends)
    states |= set() if begin is None else {begin[1]}
    return states == useful_too(begin, steps, ends)


def near_writers(chance, parts):
    """Parts that are nearly those of a writer, right or not."""
    letters, begin, steps, ends = parts
    rows = [(letters, None, steps, ends), (letters, None, {}, {}), (letters, ("", 5), steps, ends), (letters, begin, {}, ends), (letters, begin, steps, {}),
            ("", begin, steps, ends), ("ba", begin, steps, ends), (letters + letters, begin, steps, ends), ("abcde", begin, steps, ends),
            (list(letters), begin, steps, ends), (letters, list(begin or ()), steps, ends), (letters, begin, list(steps.items()), ends),
            (letters, begin, steps, list(ends.items())), (letters, begin, steps, None), (letters, begin, None, ends), (letters, 5, steps, ends)]
    if begin is None:
        return rows
    word, first = begin
    rows += [(letters, other, steps, ends) for other in ((word + "x" * 70, first), ("A", first), (word, 1000), (word, -1), (word, True), (word, None),
                                                         (None, first), (word,), (word, first, 0), (first, word))]
    for key in chance.sample(sorted(steps), min(3, len(steps))):
        step = steps[key]
        others = {other: steps[other] for other in steps if other != key}
        rows.append((letters, begin, others, ends))
        rows += [(letters, begin, {**others, bent: step}, ends) for bent in (
            (key[0], "q"), (key[0], ""), (key[0], letters + "a"), (1000, key[1]), (True, key[1]), (key[0],), key + (0,), (key[1], key[0]), key[1], None,
            (key[0], None), (chance.choice((key[0], 7)), key[1]))]
        rows += [(letters, begin, {**steps, key: bent}, ends) for bent in (
            ("q" * 9, step[1]), ("A", step[1]), (step[0], 1000), (step[0], -1), (step[0], False), list(step), step[0], None, step + (0,), (step[0], first),
            (step[0], chance.randrange(1000)))]
    for state in sorted(ends)[:3]:
        rows.append((letters, begin, steps, {other: ends[other] for other in ends if other != state}))
        rows += [(letters, begin, steps, {**ends, state: bent}) for bent in ("q" * 9, "A", None, 1, ("",))]
    rows += [(letters, begin, steps, {**ends, bent: ""}) for bent in (1000, -1, True, "0", None, (0,), first, 77)]
    return rows


def as_booleans(parts):
    """The parts, with True and False in the place of the states 1 and 0."""
    letters, begin, steps, ends = parts

    def turned(state):
        return {0: False, 1: True}.get(state, state)
    return (letters, begin and (begin[0], turned(begin[1])), {(turned(state), letter): (word, turned(after)) for (state, letter), (word, after) in steps.items()},
            {turned(state): word for state, word in ends.items()})


def is_once_too(rewriter, value):
    """Whether the value is a one-pass paper, as [14.3] and [9.1] tell it; forks are left to `is_fork`."""
    if type(value) is not tuple or len(value) != 2 or type(value[0]) is not str or value[0] != "once" or type(value[1]) is not dict:
        return False
    table = value[1]
    steps = reached_steps_too(rewriter)
    loud = loud_too(rewriter)
    wanted = {pair for pair in steps if led_to_too(steps, [pair]) & loud}
    if set(table) != wanted or not all(is_whole(p) and is_whole(q) for p, q in table):
        return False
    for delays in table.values():
        if type(delays) is not tuple or not all(type(delay) is tuple and len(delay) == 2 for delay in delays):
            return False
        if not all(is_string_of_letters(part) for delay in delays for part in delay):
            return False
    for pair, delays in table.items():
        if list(delays) != sorted(set(delays)) or any(left_over_too(*delay) != delay for delay in delays):
            return False
        if pair[0] in rewriter.starts and pair[1] in rewriter.starts:
            if left_over_too(rewriter.starts[pair[0]], rewriter.starts[pair[1]]) not in delays:
                return False
        for _, one, two, after in steps[pair]:
            if after in table and any(left_over_too(x + one[2], y + two[2]) not in table[after] for x, y in delays):
                return False
    return True


def closed_with(rewriter, table, pair, delay, most=60):
    """The table with a delay more and all to which steps lead it on, or None if this has no end."""
    steps = reached_steps_too(rewriter)
    rows = {key: set(delays) for key, delays in table.items()}
    row = [(pair, delay)]
    for key, now in row:
        if now not in rows[key]:
            rows[key].add(now)
            row += [(after, left_over_too(now[0] + one[2], now[1] + two[2])) for _, one, two, after in steps[key] if after in table]
        if len(row) > most:
            return None
    return {key: tuple(sorted(delays)) for key, delays in rows.items()}


class TestWriters(Refusals, unittest.TestCase):
    def test_examples(self):
        writer = one_pass(DROP)
        self.assertEqual([writer.begin, writer.steps, writer.ends, writer("aaa"), is_one_pass(LAST), is_one_pass(ADD)],
                         [('', 0), {(0, 'a'): ('', 1), (1, 'a'): ('a', 1)}, {0: '', 1: ''}, 'aa', False, False])
        self.assertEqual([is_once_paper(LAST, ("fork", EXAMPLE)), is_once_paper(SWAP, ("fork", EXAMPLE)), once_paper(SWAP)[0], len(one_pass(SWAP))],
                         [True, False, 'once', 3])

    def test_everything_against_steps_one_by_one(self):
        chance = random.Random(300)
        empty = full = 0
        for parts in random_all_parts(301, 120) + random_all_parts(302, 20, most=40):
            letters, begin, steps, ends = parts
            writer = writer_of(parts)
            states = useful_too(begin, steps, ends)
            self.assertEqual(parts_of(writer), parts)
            self.assertEqual((list(writer.steps), list(writer.ends)), (sorted(steps), sorted(ends)))
            self.assertEqual(writer.states, tuple(sorted(states)))
            self.assertEqual(str(writer), f"one pass with {len(states)} states")
            self.assertEqual(len(writer), len(states))
            self.assertIs(bool(writer), begin is not None)
            for text in all_texts(letters, 3) + ["".join(chance.choice(letters) for _ in range(60))]:
                rows = run_too(parts, text)
                self.assertEqual(list(writer.walk(text)), rows or [])
                self.assertEqual(writer(text), None if rows is None else "".join(word for word, _ in rows))
                full += rows is not None
                empty += rows is None
            self.assertEqual(writer_of(parts), writer)
            self.assertFalse(writer_of(parts) != writer)
            with self.assertRaises(TypeError):
                iter(writer)
        self.assertGreater(full, 500)
        self.assertGreater(empty, 500)

    def test_long_words(self):
        long = OnePass("ab", begin=("x" * 500, 999), steps={(999, "a"): ("y" * 1000, 999), (999, "b"): ("", 0)}, ends={0: "z" * 300})
        self.assertEqual(long("aab"), "x" * 500 + "y" * 2000 + "z" * 300)
        self.assertEqual([long("a"), long("ba"), list(long.walk("ba"))], [None, None, []])

    def test_equal(self):
        row = random_all_parts(303, 30)
        writers = [writer_of(parts) for parts in row]
        for one, parts in zip(writers, row):
            for other, beside in zip(writers, row):
                self.assertIs(one == other, parts == beside)
            for value in any_values():
                if not isinstance(value, OnePass):
                    self.assertIs(one == value, False)
                    self.assertIs(one != value, True)
        self.assertNotEqual(OnePass("a", begin=None, steps={}, ends={}), OnePass("ab", begin=None, steps={}, ends={}))

    def test_rewriter(self):
        counts = {}
        for parts in random_all_parts(304, 60) + random_all_parts(305, 80, most=24, gaps=0.0) + random_all_parts(306, 60, most=8, long=12):
            writer = writer_of(parts)
            letters, begin, steps, ends = parts
            states = sorted(useful_too(begin, steps, ends))
            words = ([begin[0]] if begin else []) + [word for word, _ in steps.values()] + list(ends.values())
            limit = 12 if len(states) > 12 else 64 if len(steps) > 64 else 8 if any(len(word) > 8 for word in words) else None
            counts[limit] = counts.get(limit, 0) + 1
            if limit is not None:
                self.assertEqual(self.refused(TooMany, writer.rewriter).limit, limit)
                continue
            rewriter = writer.rewriter()
            self.assertEqual(raw_of(rewriter), (letters, {states.index(begin[1]): begin[0]} if begin else {},
                                                tuple(sorted((states.index(p), letter, word, states.index(q)) for (p, letter), (word, q) in steps.items())),
                                                {states.index(p): word for p, word in ends.items()}))
        self.assertGreater(min(counts[None], counts[12], counts[8]), 10)

    def test_limits_of_the_rewriter(self):
        def around(many, letters="a", word=""):
            steps = {(at, letter): (word, (at + 1) % many) for at in range(many) for letter in letters}
            return OnePass(letters, begin=("", 0), steps=steps, ends={0: ""})
        self.assertEqual(len(around(12).rewriter().states), 12)
        self.assertEqual(self.refused(TooMany, around(13, "abcd", "x" * 9).rewriter).limit, 12)
        self.assertEqual(self.refused(TooMany, around(9, "a", "x" * 9).rewriter).limit, 8)
        self.assertEqual(around(12, "abcd", "x" * 8).rewriter().edges[0], (0, "a", "x" * 8, 1))
        # Four letters and twelve states never make more than 48 edges.
        self.assertEqual(len(around(12, "abcd").rewriter()), 48)

    def test_nothing_gives_access(self):
        letters, begin, steps, ends = "ab", ("", 3), {(3, "a"): ("x", 4), (4, "b"): ("y", 3)}, {4: "z"}
        writer = OnePass(letters, begin=begin, steps=steps, ends=ends)
        before = parts_of(writer)
        steps[(3, "b")] = ("q", 3)
        ends[3] = "q"
        writer.steps.clear()
        writer.ends[3] = "q"
        self.assertEqual(parts_of(writer), before)
        self.assertEqual([writer("a"), writer("aba"), writer("")], ["xz", "xyxz", None])
        for name in ("letters", "begin", "steps", "ends", "states"):
            with self.assertRaises(AttributeError):
                setattr(writer, name, None)
        with self.assertRaises(TypeError):
            OnePass(letters, begin, steps, ends)


class TestInvalid(Refusals, unittest.TestCase):
    def test_near_writers(self):
        chance = random.Random(310)
        counts = [0, 0]
        for parts in random_all_parts(311, 60):
            rows = near_writers(chance, parts) + [as_booleans(parts)]
            for wrong in rows:
                wanted = is_writer(wrong)
                counts[wanted] += 1
                self.same_as_told(None if wanted else InvalidMachine, writer_of, wrong)
        self.assertGreater(min(counts), 200)

    def test_states_that_are_not_met_or_lead_to_no_end(self):
        step = {(0, "a"): ("", 0)}
        for begin, steps, ends in ((("", 0), step, {}), (("", 0), {}, {}), (None, step, {0: ""}), (None, {}, {0: ""}), (None, step, {}),
                                   (("", 0), {(0, "a"): ("", 1)}, {0: ""}), (("", 0), {(1, "a"): ("", 0)}, {0: ""}),
                                   (("", 0), step, {0: "", 1: ""}), (("", 0), {(0, "a"): ("", 1), (1, "a"): ("", 1)}, {0: ""}),
                                   (("", True), {}, {1: ""}), (("", 1), {}, {True: ""}), (("", 0), {(False, "a"): ("", 0)}, {0: ""}),
                                   (("", 0), {(0, "a"): ("", False)}, {0: ""}), (["", 0], step, {0: ""}), (("", 0), {(0, "a"): ["", 0]}, {0: ""})):
            self.refused(InvalidMachine, OnePass, "a", begin=begin, steps=steps, ends=ends)
        OnePass("a", begin=("", 0), steps=step, ends={0: ""})
        self.assertEqual(len(OnePass("a", begin=None, steps={}, ends={})), 0)

    def test_any_value(self):
        for value in any_values():
            right = is_writer((value, None, {}, {}))
            self.same_as_told(None if right else InvalidMachine, lambda: OnePass(value, begin=None, steps={}, ends={}))
            if value is not None:
                self.refused(InvalidMachine, OnePass, "a", begin=value, steps={}, ends={})
                self.refused(InvalidMachine, OnePass, "a", begin=value, steps={}, ends={0: ""})
            if value != {}:
                self.refused(InvalidMachine, OnePass, "a", begin=None, steps=value, ends={})
                self.refused(InvalidMachine, OnePass, "a", begin=("", 0), steps=value, ends={1: ""})
            right = is_writer(("a", ("", 0), {}, value))
            self.same_as_told(None if right else InvalidMachine, lambda: OnePass("a", begin=("", 0), steps={}, ends=value))
            right = is_writer(("a", ("", 0), {(0, "a"): value}, {0: ""}))
            self.same_as_told(None if right else InvalidMachine, lambda: OnePass("a", begin=("", 0), steps={(0, "a"): value}, ends={0: ""}))

    def test_texts(self):
        writer = one_pass(SWAP)
        for value in any_values():
            wanted = None
            if not is_string_of_letters(value) or len(value) > 60:
                wanted = InvalidText
            elif value.strip("ab"):
                wanted = InvalidOperation
            self.same_as_told(wanted, writer, value)
            self.same_as_told(wanted, lambda: list(writer.walk(value)))
        # Nothing is raised before the first result is asked for.
        writer.walk(None)


class TestOnePass(Refusals, unittest.TestCase):
    def rewriters(self, seed):
        return (some_singles(seed) + random_singles(seed + 5, 30, states=4, letters="a", most=2, gaps=0.0)
                + random_singles(seed + 6, 30, letters="abc", most=2) + [LAST, ADD, SWAP, DROP, TURNS, EMPTY, LATE, dropping(3)])

    def check_early(self, rewriter, writer):
        """The writer is the early one, word by word."""
        known = {}
        rests = long_rests(rewriter.letters)
        for text in all_texts(rewriter.letters, 2):
            words = [word for word in [result_too(rewriter, text + rest) for rest in rests] if word is not None]
            if words:
                known[text] = beginning_of(words)
        for text in all_texts(rewriter.letters, 2):
            for rest in rests[:16]:
                rows = list(writer.walk(text + rest))
                self.assertEqual("".join(word for word, _ in rows) if rows else None, result_too(rewriter, text + rest))
                if rows:
                    self.assertEqual("".join(word for word, _ in rows[:len(text) + 1]), known[text], (text, rewriter.edges))
        self.check_states(writer)

    def check_states(self, writer):
        """The states are numbered as told, and no two of them do the same."""
        row = [writer.begin[1]] if writer else []
        for state in row:
            row += [after for (before, letter), (_, after) in sorted(writer.steps.items()) if before == state and after not in row]
        row = list(dict.fromkeys(row))
        self.assertEqual(row, list(range(len(writer))))
        kinds = {state: writer.ends.get(state) for state in row}
        for _ in row:
            kinds = {state: (kinds[state], tuple((letter, word, kinds[after]) for (before, letter), (word, after) in writer.steps.items() if before == state))
                     for state in row}
            names = {}
            kinds = {state: names.setdefault(kind, len(names)) for state, kind in kinds.items()}
        self.assertEqual(len(set(kinds.values())), len(row))

    def test_against_all_results(self):
        counts = [0, 0]
        for rewriter in self.rewriters(320):
            wanted = not wild_too(rewriter)
            counts[wanted] += 1
            self.assertIs(is_one_pass(rewriter), wanted)
            self.assertIs(fork(rewriter, rewriter.states, rewriter.states) is None, wanted)
            if not wanted:
                found = self.refused(NeedsMarks, one_pass, rewriter).fork
                self.assertIs(is_fork(rewriter, rewriter.states, rewriter.states, found), True)
                continue
            writer = one_pass(rewriter)
            self.assertIs(type(writer), OnePass)
            self.assertEqual(writer.letters, rewriter.letters)
            self.check_early(rewriter, writer)
        self.assertGreater(min(counts), 25)

    def test_one_form(self):
        chance = random.Random(330)
        checked = 0
        for rewriter in self.rewriters(331):
            if not is_one_pass(rewriter):
                continue
            writer = one_pass(rewriter)
            others = [rewriter.renumbered(dict(zip(rewriter.states, chance.sample(range(12), len(rewriter.states)))))]
            # Words come later, and two forms beside each other have the same results.
            if len(rewriter.states) <= 6 and len(rewriter) <= 32:
                others.append(rewriter | others[0])
            if len(writer) <= 12 and all(len(word) <= 8 for word, _ in [*writer.steps.values(), writer.begin or ("", 0)]) and all(len(word) <= 8 for word in writer.ends.values()):
                others.append(writer.rewriter())
                checked += writer.rewriter() != rewriter
            for other in others:
                self.assertTrue(have_equal_results(rewriter, other))
                self.assertEqual(one_pass(other), writer)
        self.assertGreater(checked, 40)

    def test_without_states(self):
        for letters in ("a", "bz", "abcd"):
            empty = Rewriter(letters, {}, (), {})
            self.assertEqual(one_pass(empty), OnePass(letters, begin=None, steps={}, ends={}))
            self.assertEqual([is_one_pass(empty), once_paper(empty), is_once_paper(empty, ("once", {}))], [True, ("once", {}), True])
        self.assertEqual(list(one_pass(EMPTY).walk("ab")), [])

    def test_what_no_path_has_written_yet(self):
        ahead = Rewriter("ab", {0: ""}, ((0, "a", "", 1), (1, "a", "", 2), (2, "b", "xyz", 0)), {0: "xy", 1: "xyx", 2: "xyy"})
        writer = one_pass(ahead)
        self.assertEqual(writer.begin, ("xy", 0))
        self.assertEqual([writer.steps[(0, "a")], writer.steps[(1, "a")], writer.ends], [("", 1), ("", 2), {0: "", 1: "x", 2: "y"}])
        # Texts that are refused do not count.
        part = Rewriter("ab", {0: ""}, ((0, "a", "", 1), (0, "b", "q", 2), (1, "a", "xa", 3), (1, "b", "xb", 3)), {3: ""})
        self.assertEqual(one_pass(part), OnePass("ab", begin=("x", 0), steps={(0, "a"): ("", 1), (1, "a"): ("a", 2), (1, "b"): ("b", 2)}, ends={2: ""}))

    def test_unlike_wide_spreads_can_become_one_state(self):
        both = Rewriter("ab", {0: ""}, ((0, "a", "", 1), (0, "b", "x", 2), (1, "a", "xx", 0), (2, "a", "x", 0)), {0: ""})
        self.assertEqual(len(one_pass(both)), 2)

    def test_more_than_1000_wide_spreads(self):
        self.assertEqual(len(one_pass(dropping(8))), 511)
        self.assertEqual(self.refused(TooMany, one_pass, dropping(9)).limit, 1000)
        self.assertTrue(is_one_pass(dropping(9)))
        self.assertEqual(once_paper(dropping(9))[0], "once")
        # A fork is told ahead of too many spreads.
        nine = dropping(9)
        wild = Rewriter("abc", {**nine.starts, 10: "", 11: ""}, nine.edges + ((10, "c", "c", 10), (11, "c", "", 11), (10, "a", "", 9), (11, "b", "", 9)), nine.ends)
        self.assertFalse(is_one_pass(wild))
        self.assertTrue(is_fork(wild, wild.states, wild.states, self.refused(NeedsMarks, one_pass, wild).fork))

    def test_just_1000_wide_spreads(self):
        just, more = thousand(False), thousand(True)
        self.assertEqual([wide_spreads_too(just), wide_spreads_too(more)], [1000, 1001])
        self.assertEqual(one_pass(just)("a" * 5), result_too(just, "a" * 5))
        self.assertEqual(self.refused(TooMany, one_pass, more).limit, 1000)


def wide_spreads_too(rewriter):
    """How many wide spreads there are."""
    def cut(words):
        many = len(beginning_of(list(words.values())))
        return tuple(sorted((state, word[many:]) for state, word in words.items()))
    row = [cut(rewriter.starts)]
    seen = set(row)
    for now in row:
        for letter in rewriter.letters:
            words = {edge[3]: word + edge[2] for state, word in now for edge in rewriter.edges if edge[:2] == (state, letter)}
            if words and cut(words) not in seen:
                seen.add(cut(words))
                row.append(cut(words))
    return len(row)


def chain(letters, starts, levels):
    """Leaves out the last letters, where each of them is read by its level of the chain."""
    edges = [(0, letter, letter, 0) for letter in letters]
    edges += [(at, letter, "", at + 1) for at, level in enumerate(levels) for letter in level]
    return Rewriter(letters, {at: "" for at in starts}, tuple(edges), {len(levels): ""})


def thousand(more):
    """A rewriter with just 1000 wide spreads, or with one more."""
    if more:
        return chain("ab", (0, 1, 3, 7, 9), ("ab", "ab", "ab", "ab", "ab", "a", "ab", "ab", "ab", "b"))
    return chain("abc", (0, 1, 7), ("ab", "ab", "abc", "ab", "ab", "abc", "abc"))


class TestPapers(Refusals, unittest.TestCase):
    def rewriters(self, seed):
        return some_singles(seed) + random_singles(seed + 3, 15, states=4, letters="a", most=2, gaps=0.0) + [LAST, ADD, SWAP, DROP, TURNS, EMPTY, dropping(2)]

    def test_papers_against_all_delays(self):
        kinds = []
        for rewriter in self.rewriters(340):
            paper = once_paper(rewriter)
            wild = wild_too(rewriter)
            self.assertEqual(paper[0], "fork" if wild else "once")
            self.assertIs(is_once_paper(rewriter, paper), True)
            self.assertEqual(len(paper), 2)
            if wild:
                self.assertTrue(is_fork(rewriter, rewriter.states, rewriter.states, paper[1]))
            else:
                self.assertTrue(is_once_too(rewriter, paper))
                self.assertEqual(list(paper[1]), sorted(paper[1]))
            kinds.append((paper[0], bool(paper[1])))
        for kind in (("fork", True), ("once", True), ("once", False)):
            self.assertGreater(kinds.count(kind), 10, kind)

    def test_further_delays_of_a_foreign_hand(self):
        wider = 0
        for rewriter in self.rewriters(350):
            paper = once_paper(rewriter)
            if paper[0] == "fork":
                continue
            for pair in paper[1]:
                for delay in (("", "a"), ("b", ""), ("ab", ""), ("a", "b"), ("zz", "y"), ("", "")):
                    wide = closed_with(rewriter, paper[1], pair, delay)
                    if wide is not None:
                        self.assertTrue(is_once_paper(rewriter, ("once", wide)))
                        self.assertTrue(is_once_paper(rewriter, ("once", dict(reversed(wide.items())))))
                        wider += wide != paper[1]
        self.assertGreater(wider, 40)

    def test_bent_tables(self):
        counts = [0, 0]
        for rewriter in self.rewriters(360):
            paper = once_paper(rewriter)
            table = paper[1] if paper[0] == "once" else {pair: (("", ""),) for pair in reached_steps_too(rewriter)}
            bent = [table, {}, list(table.items()), tuple(table), None]
            for pair in list(table)[:6]:
                delays = table[pair]
                bent += [{**table, pair: other} for other in (
                    delays[1:], delays[:-1], delays + (("", "zz"),), delays + delays[-1:], (), delays[::-1] + delays, list(delays), delays + (("a", "a"),),
                    tuple(sorted(delays + (("ab", ""),))), tuple(list(delay) for delay in delays), tuple(delay + ("",) for delay in delays), None,
                    (("", ""), ("", "A")), (("", ""), ("", 1)))]
                bent.append({key: table[key] for key in table if key != pair})
                bent.append({((True, 1) if key == (1, 1) else key): table[key] for key in table})
                bent += [{**{key: table[key] for key in table if key != pair}, key: delays} for key in (pair + (0,), pair[:1], pair[0], (12, 0), None, "a")]
            bent += [{**table, (p, q): delays} for p in rewriter.states for q in rewriter.states for delays in ((), (("", ""),)) if (p, q) not in table]
            for shown in bent:
                for value in (("once", shown), ("fork", shown)):
                    wanted = is_once_too(rewriter, value)
                    counts[wanted] += 1
                    self.assertIs(is_once_paper(rewriter, value), wanted, value)
        self.assertGreater(min(counts), 100)

    def test_true_beside_1(self):
        rewriter = Rewriter("a", {0: ""}, ((0, "a", "a", 1), (1, "a", "a", 0)), {0: ""})
        delays = (("", ""),)
        self.assertEqual(once_paper(rewriter), ("once", {(0, 0): delays, (1, 1): delays}))
        for wrong in ((True, 1), (1, True), (True, True), (False, 0), (0, False)):
            self.assertFalse(is_once_paper(rewriter, ("once", {(0, 0): delays, wrong: delays})))
            self.assertFalse(is_once_paper(rewriter, ("once", {(1, 1): delays, wrong: delays})))

    def test_forks(self):
        for value in bent_forks(EXAMPLE):
            wanted = is_fork(LAST, LAST.states, LAST.states, value)
            self.assertIs(is_once_paper(LAST, ("fork", value)), wanted)
            self.assertFalse(is_once_paper(LAST, ("once", value)))
            # The states of the fork are others there.
            self.assertFalse(is_once_paper(LAST.renumbered({0: 4, 1: 5, 2: 6, 3: 7}), ("fork", value)))
            for wrong in (["fork", value], ("fork", value, value), ("Fork", value), (None, value), ("fork",), value):
                self.assertFalse(is_once_paper(LAST, wrong))
        # Its last states may be any.
        for last, other in (((0, "b", "b", 1), (2, "b", "bb", 3)), ((0, "a", "a", 0), (2, "a", "aa", 2))):
            longer = EXAMPLE[:2] + (last[1], (0, EXAMPLE[3][1] + (last,)), (2, EXAMPLE[4][1] + (other,)))
            self.assertTrue(is_once_paper(LAST, ("fork", longer)))
        self.assertFalse(is_once_paper(LAST, ("once", {})))
        self.assertFalse(is_once_paper(ADD, ("fork", EXAMPLE)))

    def test_any_value(self):
        for value in any_values():
            for rewriter in (LAST, SWAP, EMPTY):
                for paper in (value, ("once", value), ("fork", value), ("once", {(0, 0): value}), ("once", {(0, 0): (value,)})):
                    wanted = rewriter == EMPTY and paper == ("once", {})
                    self.assertIs(is_once_paper(rewriter, paper), wanted)


class TestRefusals(Refusals, unittest.TestCase):
    CALLS = ((is_one_pass, ()), (one_pass, ()), (once_paper, ()), (is_once_paper, (None,)))

    def test_rewriters_and_two_results(self):
        more = many_sets(more=True)
        for call, last in self.CALLS:
            for value in any_values():
                if not isinstance(value, Rewriter):
                    self.refused(InvalidRewriter, call, value, *last)
            for rewriter in (CHOICE, TWICE):
                paper = self.refused(NotSingle, call, rewriter, *last).paper
                self.assertEqual(paper[0], "two")
                self.assertTrue(is_single_paper(rewriter, paper))
            # Rest sets do not matter here.
            call(more, *last)
        both = LAST | Rewriter("ab", {0: ""}, ((0, "a", "b", 0),), {0: ""})
        self.assertTrue(is_single_paper(both, self.refused(NotSingle, one_pass, both).paper))
        before = raw_of(LAST)
        self.refused(NeedsMarks, one_pass, LAST)
        self.assertEqual(raw_of(LAST), before)


if __name__ == "__main__":
    unittest.main()
