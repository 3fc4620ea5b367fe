"""What several tests need: values, wrong values, and second ways of telling what is right."""
import random

from fewmarks.base.rewriters import Rewriter
from fewmarks.books.books import Book
from fewmarks.desk.editor import Editor
from fewmarks.machines.machines import TwoPass
from fewmarks.machines.marks import Marks
from fewmarks.passes.onepass import OnePass

LAST = Rewriter("ab", {0: "", 2: ""}, ((0, "a", "a", 0), (0, "b", "b", 1), (1, "a", "a", 0), (1, "b", "b", 1), (2, "a", "aa", 2), (2, "b", "bb", 3), (3, "a", "aa", 2), (3, "b", "bb", 3)), {0: "", 3: ""})
ADD = Rewriter("ab", {0: "", 1: ""}, ((0, "a", "a", 0), (0, "b", "b", 0), (0, "a", "b", 1), (1, "b", "a", 1)), {1: ""})
SWAP = Rewriter("ab", {0: ""}, ((0, "a", "", 1), (0, "b", "", 2), (1, "a", "aa", 0), (1, "b", "ba", 0), (2, "a", "ab", 0), (2, "b", "bb", 0)), {0: "", 1: "a", 2: "b"})
DROP = Rewriter("a", {0: "", 2: ""}, ((0, "a", "a", 0), (0, "a", "", 1)), {1: "", 2: ""})
TURNS = Rewriter("abc", {0: ""}, ((0, "a", "a", 1), (0, "a", "", 2), (0, "b", "", 1), (0, "b", "a", 2), (1, "c", "a", 1), (2, "c", "a", 2), (1, "a", "", 3), (2, "b", "", 3)), {3: ""})
EMPTY = Rewriter("ab", {0: ""}, (), {1: ""})
TWICE = LAST.with_edge((0, "b", "a", 1)) | Rewriter.copying("ab")
# Results are the texts of as many letters, so that there are 2 ** n of them.
CHOICE = Rewriter("a", {0: ""}, ((0, "a", "a", 0), (0, "a", "b", 0)), {0: ""})
# 2 ** n paths that write the same.
SAME = Rewriter("a", {0: "", 1: ""}, ((0, "a", "", 0), (0, "a", "", 1), (1, "a", "", 0), (1, "a", "", 1)), {0: ""})
KNOWN = (LAST, ADD, SWAP, DROP, TURNS, EMPTY, TWICE, CHOICE, SAME, Rewriter.copying("abcd"))


def deep(many):
    """A value that is nested so deep."""
    value = ()
    for _ in range(many - 1):
        value = (value,)
    return value


def any_values():
    """Values of all kinds, right and wrong ones for whatever parameter."""
    return [
        None, True, False, 0, 1, 2, 3, 11, 12, 60, 61, -1, 10 ** 39, -10 ** 39,
        "", "a", "b", "c", "z", "ab", "ba", "aa", "abcd", "abcde", "A", "aB", "a b", " a", "a ", "a\n", "\n", "a.", "0", "-",
        "a" * 8, "a" * 9, "a" * 60, "a" * 61, "b" * 1000, "a" * 500 + "!" + "a" * 499, "xyz",
        (), (0,), (1,), (0, 0), (0, 1), (1, 0), (2, 3), (0, 2, 3), (True,), (0, True), (False, True), (False, 1), (12,), (-1, 0),
        (0, 1, 2), ("a",), ("a", "b"), ("", ""), ("a", "a"), ("", "b"), ("ab", "ac"), ("ba", "c"), (None, None), ("a", 1), ((), ()), ([],),
        [], [0], [0, 1], ["a", "b"], [[]], ["", ""],
        {}, {0: ""}, {1: ""}, {"a": "b"}, {True: ""}, {0: 1}, {(0, 0): ("", "")}, {None: None}, {12: ""}, {0: "a" * 9},
        (0, "a", "a", 0), (0, "a", "", 1), [0, "a", "a", 0], (False, "a", "a", 0), (0, "a", "a", False), (0, "a", "a"),
        (0, "a", "a", 0, 0), (0, "a", "a" * 9, 0), (0, "c", "a", 0), (0, "a", "A", 0), (0, 0, "a", "a"), (12, "a", "a", 0),
        (0, ()), (1, ()), (0, []), (True, ()), (0, ((0, "a", "a", 0),)), (0, ((0, "a", "a", 1),)), (0, [(0, "a", "a", 0)]),
        ("single", {}), ("single", {(0, 0): ("", "")}), ("single", {(0, 0): ("", ""), (1, 1): ("", "")}),
        ("two", "", (0, ()), (0, ())), ("two",), "single", "two", ["single", {}],
        deep(10), LAST, ADD, SWAP, CHOICE, EMPTY, LAST("ab"), LAST.ends, LAST.edges, (LAST,), [ADD], {0: LAST},
        (number for number in (0, 1)), ("e" * 4000),
        ("same", (((0,), (0,)), ((1,), (0,)))), ("text", ""), ("text", "a"), ("alike", (), {}), ("apart", ("text", "")),
        ("", "a", "", (0, ((0, "a", "a", 0),)), (0, ((0, "a", "a", 0),))), {("a", 0): 0}, ((("a", 0),),), ("does", (), {}), ("fails", ""),
        ("once", {}), ("once", {(0, 0): (("", ""),)}), ("fork", ()), ("alike", (), ()), ("ahead", 0, "", "a"), ("never", "a", "", "b"), ((), True), ((("a", "one"),), False),
        ((("ab", "any"),) * 3, True), Book("ab"), Book("ab", ("a", ((), False), ((), True), "x")), ("a", ((), False), ((), True), "x"),
        TwoPass(Marks("a", {("a", 0): 0}, ()), begins={}, steps={}, ends={}), Editor(TwoPass(Marks("a", {("a", 0): 0}, ()), begins={}, steps={}, ends={}), "a"),
        ("put", 0, "a"), ("cut", 0, 1), ("use", None), (("put", 0, "a"),), "letters ab", "letters ab\ngood -", "names", "undo", OnePass("a", begin=None, steps={}, ends={}), OnePass("ab", begin=("x", 0), steps={(0, "a"): ("", 0)}, ends={0: ""}),
        ("equal", (), {}), ("unlike", ""), Marks("a", {("a", 0): 1, ("a", 1): 1}, (0,)), Marks("ab", {("a", 0): 0, ("b", 0): 0}, (0,)),
    ]


def is_whole(value):
    """Whether this is an integer, told in another way than by the package."""
    return type(value) is int


def is_string_of_letters(value):
    return type(value) is str and all(97 <= ord(sign) <= 122 for sign in value)


def raw_of(rewriter):
    """The parts of a rewriter."""
    return rewriter.letters, rewriter.starts, rewriter.edges, rewriter.ends


def all_texts(letters, length):
    """All texts of at most so many letters, in order."""
    rows = last = [""]
    for _ in range(length):
        last = [text + letter for text in last for letter in letters]
        rows = rows + last
    return rows


def all_trails(raw, text):
    """All complete paths that read the text, by going along all edges."""
    _, starts, edges, ends = raw
    rows = [(start, start, ()) for start in starts]
    for letter in text:
        rows = [(start, edge[3], row + (edge,)) for start, state, row in rows
                for edge in set(edges) if edge[0] == state and edge[1] == letter]
    return sorted((start, row) for start, state, row in rows if state in ends)


def trail_word(raw, trail):
    """What a complete path writes."""
    _, starts, _, ends = raw
    word = starts[trail[0]]
    state = trail[0]
    for edge in trail[1]:
        word += edge[2]
        state = edge[3]
    return word + ends[state]


def all_results(raw, text):
    """The results of a text, in order, from all complete paths."""
    words = {trail_word(raw, trail) for trail in all_trails(raw, text)}
    return tuple(sorted(words, key=lambda word: (len(word), word)))


def random_word(chance, most, letters="abz"):
    return "".join(chance.choice(letters) for _ in range(chance.randint(0, most)))


def random_raw(chance, *, states=4, edges=9, most=2, letters=None):
    """The parts of some rewriter, much of which may be left out."""
    letters = letters or chance.choice(("a", "ab", "bc", "abc", "bz"))
    names = chance.sample(range(12), chance.randint(1, states))
    rows = [(chance.choice(names), chance.choice(letters), random_word(chance, most), chance.choice(names))
            for _ in range(chance.randint(0, edges))]
    rows = rows + rows[:chance.randint(0, 2)]
    chance.shuffle(rows)
    starts = {name: random_word(chance, most) for name in chance.sample(names, chance.randint(1, len(names)))}
    ends = {name: random_word(chance, most) for name in chance.sample(names, chance.randint(1, len(names)))}
    return letters, starts, tuple(rows), ends


def random_raws(seed, many, **told):
    chance = random.Random(seed)
    return [random_raw(chance, **told) for _ in range(many)]


def random_rewriters(seed, many, **told):
    return [Rewriter(*raw) for raw in random_raws(seed, many, **told)]


def random_singles(seed, many, *, states=5, letters="ab", most=3, gaps=0.15):
    """Rewriters with one edge at most for each state and letter, from the left or from the right."""
    chance = random.Random(seed)
    made = []
    while len(made) < many:
        names = chance.sample(range(12), states)
        edges = [(p, letter, random_word(chance, most, letters), chance.choice(names))
                 for p in names for letter in letters if chance.random() > gaps]
        one = {chance.choice(names): random_word(chance, most)}
        some = {name: random_word(chance, most) for name in chance.sample(names, chance.randint(1, states))}
        if len(made) % 2:
            made.append(Rewriter(letters, some, tuple((q, letter, word, p) for p, letter, word, q in edges), one))
        else:
            made.append(Rewriter(letters, one, tuple(edges), some))
    return made


def random_marks(seed, many, *, most=6, letters=None):
    """Marks of which each is that of some rest, with any of them good."""
    chance = random.Random(seed)
    made = []
    while len(made) < many:
        row = letters or chance.choice(("a", "ab", "bz", "abc", "abcd"))
        size = chance.randint(1, most)
        steps = {(letter, mark): chance.randrange(size) for letter in row for mark in range(size)}
        met = [0]
        for mark in met:
            met += sorted({steps[(letter, mark)] for letter in row} - set(met))
        # Others keep their order, so that marks are often not numbered as met.
        numbers = {mark: at for at, mark in enumerate(sorted(met))}
        steps = {(letter, numbers[mark]): numbers[after] for (letter, mark), after in steps.items() if mark in numbers}
        good = tuple(mark for mark in range(len(met)) if chance.random() < 0.6)
        made.append(Marks(row, steps, good))
    return made


def ring(many, letter="a"):
    """A rewriter that goes round so many states, and writes at one of them."""
    edges = tuple((at, letter, "x" if at == 0 else "", (at + 1) % many) for at in range(many))
    return Rewriter(letter, {0: ""}, edges, {0: ""})


def two_rings():
    """Rings of five and of seven states over the same letter, each of which writes once."""
    five = tuple((at, "a", "x" if at == 2 else "", (at + 1) % 5) for at in range(5))
    seven = tuple((5 + at, "a", "y" if at == 4 else "", 5 + (at + 1) % 7) for at in range(7))
    return Rewriter("a", {0: "", 5: ""}, five + seven, {0: "", 5: ""})


def many_sets(*, more=False):
    """A rewriter with 256 rest sets: all sets of eight states; with a state more there are 257."""
    edges = [(at, "a", "", (at + 1) % 8) for at in range(8)]
    edges += [(0, "b", "", 1), (1, "b", "", 0)] + [(at, "b", "", at) for at in range(2, 8)]
    edges += [(at, "c", "", at) for at in range(1, 8)]
    edges += [(at, "d", "", at) for at in range(8)] + [(0, "d", "", 1)]
    states = {0: "", 8: ""} if more else {0: ""}
    return Rewriter("abcd", states, tuple(edges), states)


class Refusals:
    """What tests of wrong arguments share; beside it stands unittest.TestCase."""

    def refused(self, error, call, *values, **told):
        """The error, which is of just this class."""
        with self.assertRaises(Exception) as caught:
            call(*values, **told)
        self.assertIs(type(caught.exception), error, (call, values, told))
        return caught.exception

    def same_as_told(self, wanted, call, *values):
        """Whether a call is refused as told: None, or a class, or a class and a value."""
        if wanted is None:
            call(*values)
            return
        error, *kept = wanted if isinstance(wanted, tuple) else (wanted,)
        caught = self.refused(error, call, *values)
        if kept:
            self.assertIs(type(caught.value), type(kept[0]))
            self.assertEqual(caught.value, kept[0])
