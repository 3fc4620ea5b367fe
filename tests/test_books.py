"""Books of rules: [17.2], [17.3], [17.4], [0.22], and module fewmarks.books.books."""
import itertools
import random
import re
import unittest

from fewmarks.books.books import MAX_ITEMS, MAX_RULES, Book, have_equal_places, idle_rules, lean, parting_place
from fewmarks.errors import InvalidBook, InvalidNumber, InvalidOperation, InvalidText, TooMany
from fewmarks.machines.machines import TwoPass
from fewmarks.machines.marks import Marks, least_marks
from fewmarks.passes.places import letters_ahead, place_machine, place_marks
from helpers import Refusals, all_texts, any_values, is_string_of_letters, is_whole, random_word
from test_early import same_states
from test_patterns import is_pattern_too, random_pattern

ANYTHING, NEXT_B = ((), False), ((("b", "one"),), False)
BOOK = Book("ab", ("a", ANYTHING, NEXT_B, "x"), ("a", ANYTHING, ANYTHING, "aa"))


def pattern_of(written):
    """A pattern from such a text as "^[ab]*[b]"."""
    return tuple((letters, "any" if star else "one") for letters, star in re.findall(r"\[([a-z]+)\](\*?)", written)), written.startswith("^")


# Just 256 and 257 sights of what comes behind, for patterns that are turned round, and just 1000 and 1001 traces.
MANY = {256: "[abd]*[ad] ^[acd]* [b][bcd] ^[abc]*[bd][abcd] [abcd][abd][abd] ^[ad][abc]*[abcd]* [ac][ad][bd] ^[bcd]*[abd]*",
        257: "[bc][abcd][acd] [cd][c]*[a]* [abd][cd] ^[bcd]* ^[ad][abcd]* ^[abd]*[acd]* [d][abd]*[bd] [d][cd]*[ad]*",
        1000: "^[ab]*[acd]* ^[bd][bcd]*[abcd]* ^[abcd][abd]*[abc]* [ad][b][ad]* ^[cd][abcd]*[abcd] [ad][acd][abcd] ^[ac]* [cd][abcd][abcd]",
        1001: "^[abd][ac][bcd]* ^[acd]*[bc]* ^[ac][ab]*[abcd]* [ad][abcd][bc] ^[bcd]*[abc]* [ac][abcd][abcd] ^[bcd]*[abc][abd] ^[bd]*[ad]*[abc]*"}


def book_of(many, *, behind):
    """A book with so many sights, or traces."""
    rules = []
    for at, written in enumerate(MANY[many].split(" ")):
        items, whole = pattern_of(written)
        rules.append(("abcd"[at % 4],) + ((ANYTHING, (items[::-1], whole)) if behind else ((items, whole), ANYTHING)) + ("xyz"[at % 3],))
    return Book.of("abcd", tuple(rules))


def matcher(items):
    return re.compile("".join(f"[{letters}]" + ("*" if kind == "any" else "") for letters, kind in items))


def begins_re(pattern, text):
    items, whole = pattern
    return bool(matcher(items).fullmatch(text) if whole else matcher(items).match(text))


def ends_re(pattern, text):
    items, whole = pattern
    return bool(matcher(items).fullmatch(text)) if whole else any(matcher(items).fullmatch(text[at:]) for at in range(len(text) + 1))


def rules_too(book, text):
    """For each letter the index of the rule that applies there, or None."""
    found = []
    for at, letter in enumerate(text):
        fine = [k for k, (own, before, behind, _) in enumerate(book.rules)
                if own == letter and ends_re(before, text[:at]) and begins_re(behind, text[at + 1:])]
        found.append(fine[0] if fine else None)
    return found


def placed_too(book, text):
    return tuple(letter if k is None else book.rules[k][3] for k, letter in zip(rules_too(book, text), text))


def sight_too(book, rest):
    """For each rule the numbers of items from which on a beginning of the rest fits."""
    return tuple(tuple(at for at in range(len(items) + 1) if begins_re((items[at:], whole), rest)) for _, _, (items, whole), _ in book.rules)


def trace_too(book, text):
    return tuple(tuple(at for at in range(len(items) + 1) if ends_re((items[:at], whole), text)) for _, (items, whole), _, _ in book.rules)


def met_too(letters, told, longer):
    """A dict from all that is told of texts to the first such texts, where a letter more tells what comes next."""
    found = {told(""): ""}
    row = [""]
    for text in row:
        for letter in letters:
            after = longer(text, letter)
            if told(after) not in found:
                found[told(after)] = after
                row.append(after)
    return found


def sights_of(book):
    return met_too(book.letters, lambda rest: sight_too(book, rest), lambda rest, letter: letter + rest)


def traces_of(book):
    return met_too(book.letters, lambda text: trace_too(book, text), lambda text, letter: text + letter)


def alike_rests(book, fronts, rests):
    """The classes of some rests, by the words that each letter ahead of them gets behind all texts, letter by letter."""
    kinds = {rest: tuple(placed_too(book, front + letter + rest)[len(front)] for letter in book.letters for front in fronts) for rest in rests}
    onward = {rest: [next(other for other in rests if sight_too(book, other) == sight_too(book, letter + rest)) for letter in book.letters] for rest in rests}
    while True:
        finer = {rest: (kinds[rest], tuple(kinds[other] for other in onward[rest])) for rest in rests}
        names = {}
        finer = {rest: names.setdefault(kind, len(names)) for rest, kind in finer.items()}
        if len(set(finer.values())) == len(set(kinds.values())):
            return finer
        kinds = finer


def random_rule(chance, letters):
    return (chance.choice(letters), random_pattern(chance, letters, chance.choice((0, 1, 2, 3))), random_pattern(chance, letters, chance.choice((0, 1, 1, 2, 3))),
            random_word(chance, 2, "abx"))


def random_book(chance, most=4, letters=None):
    letters = letters or chance.choice(("a", "ab", "ab", "bz", "abc"))
    return Book.of(letters, tuple(random_rule(chance, letters) for _ in range(chance.randint(0, most))))


def random_books(seed, many, **told):
    chance = random.Random(seed)
    return [random_book(chance, **told) for _ in range(many)]


def is_book(letters, rules):
    """Whether there is such a book, told in another way than by the package."""
    if not is_string_of_letters(letters) or not 1 <= len(letters) <= 4 or sorted(set(letters)) != list(letters):
        return False
    if type(rules) is not tuple or len(rules) > 8:
        return False
    for rule in rules:
        if type(rule) is not tuple or len(rule) != 4:
            return False
        letter, before, behind, word = rule
        if type(letter) is not str or len(letter) != 1 or letter not in letters or not is_string_of_letters(word) or len(word) > 8:
            return False
        if not is_pattern_too(before) or not is_pattern_too(behind):
            return False
        if not set("".join(part for part, _ in before[0] + behind[0])) <= set(letters):
            return False
    return True


class TestBooks(Refusals, unittest.TestCase):
    def test_examples(self):
        self.assertEqual([BOOK.placed("aab"), BOOK.rule_at("aab", 0), len(BOOK.place_marks()), letters_ahead(BOOK.place_machine().rewriter()), idle_rules(BOOK)],
                         [('aa', 'x', 'b'), 1, 2, 1, ()])
        self.assertEqual([lean(BOOK.with_rule(2, ("a", NEXT_B, ANYTHING, "y"))) == BOOK, have_equal_places(BOOK, BOOK.without(1)),
                          len(least_marks(BOOK.place_machine().rewriter()))], [True, False, 1])
        self.assertEqual((MAX_RULES, MAX_ITEMS), (8, 3))

    def test_results_against_the_rules(self):
        chance = random.Random(700)
        applied = {}
        for book in random_books(701, 60) + random_books(702, 10, most=8):
            for text in all_texts(book.letters, 4)[:50] + ["".join(chance.choice(book.letters) for _ in range(many)) for many in (9, 60)]:
                wanted = rules_too(book, text)
                self.assertEqual(book.placed(text), placed_too(book, text))
                self.assertEqual(book(text), "".join(placed_too(book, text)))
                for at, rule in enumerate(wanted):
                    self.assertEqual(book.rule_at(text, at), rule)
                    applied[rule] = applied.get(rule, 0) + 1
        self.assertGreater(min(applied[rule] for rule in (None, 0, 1, 2, 3)), 100)

    def test_all_rules_look_at_the_text_as_it_is_given(self):
        book = Book("ab", ("a", ANYTHING, ANYTHING, "b"), ("b", ((("b", "one"),), False), ANYTHING, "aa"))
        self.assertEqual(book.placed("abbab"), ("b", "b", "aa", "b", "b"))
        whole = Book("ab", ("a", ((), True), ((("b", "any"),), True), ""), ("b", ((("a", "one"),), True), ANYTHING, "q"))
        self.assertEqual([whole("abbb"), whole("abba"), whole("aab"), whole("bab")], ["qbb", "aqba", "aab", "bab"])

    def test_values(self):
        books = random_books(703, 25) + [BOOK, Book("ab"), Book("abcd")]
        for book in books:
            self.assertEqual((len(book), list(book), tuple(book)), (len(book.rules), list(book.rules), book.rules))
            self.assertEqual([book[at] for at in range(len(book))], list(book.rules))
            self.assertEqual(str(book), f"book of {len(book.rules)} rules for {book.letters}")
            self.assertEqual(Book(book.letters, *book.rules), book)
            self.assertEqual(Book.of(book.letters, book.rules), book)
            for other in books:
                self.assertIs(book == other, (book.letters, book.rules) == (other.letters, other.rules))
                self.assertIs(book != other, (book.letters, book.rules) != (other.letters, other.rules))
            for value in any_values():
                if not isinstance(value, Book):
                    self.assertIs(book == value, False)
            for name in ("letters", "rules"):
                with self.assertRaises(AttributeError):
                    setattr(book, name, None)
        self.assertEqual([str(BOOK), str(Book("a"))], ["book of 2 rules for ab", "book of 0 rules for a"])

    def test_with_rule_without_and_moved_at_all_indices(self):
        chance = random.Random(704)
        for book in random_books(705, 20, most=8) + [Book("ab"), BOOK]:
            rules = list(book.rules)
            rule = random_rule(chance, book.letters)
            for at in range(len(rules) + 1):
                if len(rules) == 8:
                    self.refused(InvalidBook, book.with_rule, at, rule)
                    continue
                more = book.with_rule(at, rule)
                self.assertEqual(more.rules, tuple(rules[:at] + [rule] + rules[at:]))
                self.assertEqual((more[at], more.without(at)), (rule, book))
            for at in range(len(rules)):
                self.assertEqual(book.without(at).rules, tuple(rules[:at] + rules[at + 1:]))
                for to in range(len(rules)):
                    row = rules[:at] + rules[at + 1:]
                    row.insert(to, rules[at])
                    self.assertEqual(book.moved(at, to).rules, tuple(row))
                    self.assertEqual(book.moved(at, to)[to], rules[at])
            self.assertEqual(book.rules, tuple(rules))

    def test_indices(self):
        for value in any_values():
            for book in (BOOK, Book("ab"), random_books(706, 1)[0]):
                right = is_whole(value) and 0 <= value < len(book)
                wanted = None if right else (InvalidNumber, value)
                self.same_as_told(wanted, book.__getitem__, value)
                self.same_as_told(wanted, book.without, value)
                self.same_as_told(wanted, book.moved, value, 0)
                self.same_as_told(wanted if len(book) and not right else wanted or (None if len(book) else (InvalidNumber, 0)), book.moved, value, 0)
                if len(book):
                    self.same_as_told(wanted, book.moved, 0, value)
                    self.same_as_told(wanted or (InvalidNumber, -1), book.moved, value, -1)
            right = is_whole(value) and 0 <= value <= len(BOOK)
            self.same_as_told(None if right else (InvalidNumber, value), BOOK.with_rule, value, BOOK[0])
            self.same_as_told(InvalidBook if right else (InvalidNumber, value), BOOK.with_rule, value, None)
            self.same_as_told(None if is_whole(value) and 0 <= value < 3 else (InvalidNumber, value), BOOK.rule_at, "aab", value)
            self.refused(InvalidNumber, BOOK.rule_at, "", value)

    def test_texts(self):
        for value in any_values():
            wanted = None
            if not is_string_of_letters(value) or len(value) > 60:
                wanted = InvalidText
            elif value.strip("ab"):
                wanted = InvalidOperation
            self.same_as_told(wanted, BOOK, value)
            self.same_as_told(wanted, BOOK.placed, value)
            self.same_as_told(wanted or (InvalidNumber, -1), BOOK.rule_at, value, -1)


class TestInvalid(Refusals, unittest.TestCase):
    def test_rules_and_letters(self):
        rule = BOOK[0]
        rows = [("ab", rule * 2), ("ab", rule[:3]), ("ab", list(rule)), ("ab", ("c",) + rule[1:]), ("ab", ("",) + rule[1:]), ("ab", ("ab",) + rule[1:]), ("ab", (None,) + rule[1:]),
                ("ab", rule[:3] + ("x" * 8,)), ("ab", rule[:3] + ("x" * 9,)), ("ab", rule[:3] + ("X",)), ("ab", rule[:3] + (None,)), ("ab", rule[:3] + ("zq",)), ("a", rule), ("bc", rule),
                ("ab", ("a", NEXT_B, ((("c", "one"),), False), "")), ("ab", ("a", ((("abc", "any"),), False), ANYTHING, "")), ("abc", ("a", ((("abc", "any"),), False), ANYTHING, "")),
                ("ab", ("a", ((), 0), ANYTHING, "")), ("ab", ("a", ANYTHING, ((("a", "one"),) * 4, False), "")), ("ab", ("a", ANYTHING, ((("a", "one"),) * 3, True), "")),
                ("ab", ("a", None, ANYTHING, "")), ("ab", ("a", ANYTHING, None, "")), ("ab", None), ("ab", ()), ("ba", rule), ("", rule), ("abcde", rule), (None, rule), ("aB", rule)]
        counts = [0, 0]
        for letters, wrong in rows:
            wanted = is_book(letters, (wrong,))
            counts[wanted] += 1
            for call in (lambda: Book(letters, wrong), lambda: Book.of(letters, (wrong,)), lambda: Book(letters, rule, wrong), lambda: Book.of(letters, (wrong, rule))):
                self.same_as_told(None if wanted else InvalidBook, call)
        self.assertGreater(counts[1], 3)
        Book("ab", *[rule] * 8)
        self.refused(InvalidBook, Book, "ab", *[rule] * 9)
        self.refused(InvalidBook, Book.of, "ab", (rule,) * 9)

    def test_any_value(self):
        for value in any_values():
            self.same_as_told(None if is_book(value, ()) else InvalidBook, Book, value)
            self.same_as_told(None if is_book("ab", (value,)) else InvalidBook, Book, "ab", value)
            self.same_as_told(None if is_book("ab", value) else InvalidBook, Book.of, "ab", value)
            for wrong in (("a", value, ANYTHING, ""), ("a", ANYTHING, value, ""), (value, ANYTHING, ANYTHING, ""), ("a", ANYTHING, ANYTHING, value), ("a", (value, True), ANYTHING, "")):
                self.same_as_told(None if is_book("ab", (wrong,)) else InvalidBook, Book, "ab", wrong)
                self.same_as_told(None if is_book("ab", (wrong,)) else InvalidBook, Book("ab").with_rule, 0, wrong)


class TestPlaces(Refusals, unittest.TestCase):
    def books(self, seed):
        some = random_books(seed, 45) + random_books(seed + 1, 16, most=8, letters="ab") + random_books(seed + 2, 10, most=1)
        return some + [BOOK, Book("ab"), BOOK.moved(0, 1), BOOK.with_rule(1, ("b", ((("a", "one"),), True), ((("a", "any"),), True), "q"))]

    def test_marks(self):
        many = []
        for book in self.books(710):
            sights = sights_of(book)
            marks = book.place_marks()
            self.assertIs(type(marks), Marks)
            self.assertEqual((marks.letters, marks.met(), marks.good), (book.letters, marks, tuple(marks)))
            classes = alike_rests(book, list(traces_of(book).values()), list(sights.values()))
            pairs = {(marks(rest), classes[rest]) for rest in classes}
            self.assertEqual(len(pairs), len(marks))
            self.assertEqual(len(set(classes.values())), len(marks))
            many.append(len(marks))
        self.assertGreaterEqual(len(set(many)), 5)

    def test_marks_against_texts(self):
        for book in self.books(715)[:20]:
            marks = book.place_marks()
            rests = all_texts(book.letters, 3)[:9]
            fronts = all_texts(book.letters, 3)
            for one, other in itertools.combinations(rests, 2):
                if marks(one) == marks(other):
                    for front in fronts:
                        self.assertEqual(book.placed(front + one)[:len(front)], book.placed(front + other)[:len(front)])

    def test_machine(self):
        compared = 0
        for book in self.books(720):
            if len(traces_of(book)) * len(book.place_marks()) > 1000:
                self.assertEqual(self.refused(TooMany, book.place_machine).limit, 1000)
                continue
            machine = book.place_machine()
            self.assertIs(type(machine), TwoPass)
            self.assertEqual((machine.marks, machine.numbered()), (book.place_marks(), machine))
            self.assertEqual({word for word, _ in machine.begins.values()} | set(machine.ends.values()), {""})
            self.assertEqual(same_states(machine), [])
            for text in all_texts(book.letters, 5)[:64]:
                self.assertEqual(tuple(word for word, _ in machine.walk(text))[1:-1], placed_too(book, text))
            if len(machine) <= 12 and len(machine.steps) <= 64:
                # As the machine in place of the rewriter that it is.
                self.assertEqual(place_machine(machine.rewriter()), machine)
                self.assertEqual(place_marks(machine.rewriter()), machine.marks)
                compared += 1
        self.assertGreater(compared, 20)

    def test_mark_of_nothing_alone(self):
        # No letter leads to the mark 0 again.
        last = Book("ab", ("a", ANYTHING, ((), True), "x"))
        self.assertEqual([len(last.place_marks()), last("aaa"), last.place_machine()("aaa")], [2, "aax", "aax"])
        self.assertEqual(last.place_marks()[0], ())

    def test_equal_and_parting_places(self):
        chance = random.Random(730)
        counts = [0, 0]
        for book in self.books(731):
            if len(traces_of(book)) * len(book.place_marks()) > 300:
                continue
            others = [random_book(chance, most=3, letters=book.letters), book, Book(book.letters)]
            if len(book):
                at = chance.randrange(len(book))
                others += [book.without(at), book.moved(at, 0), book.moved(0, len(book) - 1)]
            if len(book) < 8:
                others += [book.with_rule(len(book), random_rule(chance, book.letters)), book.with_rule(0, random_rule(chance, book.letters))]
            for other in others:
                same = book.place_machine() == other.place_machine()
                counts[same] += 1
                self.assertIs(have_equal_places(book, other), same)
                self.assertIs(have_equal_places(other, book), same)
                found = parting_place(book, other)
                if same:
                    self.assertIsNone(found)
                    for text in all_texts(book.letters, 5)[:80]:
                        self.assertEqual(placed_too(book, text), placed_too(other, text))
                else:
                    text, index, word, against = found
                    self.assertNotEqual(word, against)
                    self.assertEqual((placed_too(book, text)[index], placed_too(other, text)[index]), (word, against))
        self.assertGreater(min(counts), 50)

    def test_idle_rules_and_lean(self):
        idle_alone = 0
        for book in self.books(740) + [BOOK.with_rule(0, BOOK[0]), BOOK.with_rule(2, BOOK[1]), Book("a", ("a", ANYTHING, ANYTHING, "a"))]:
            if len(traces_of(book)) * len(book.place_marks()) > 300:
                continue
            idle = []
            for at in range(len(book)):
                found = parting_place(book, book.without(at))
                if found is None:
                    idle.append(at)
                else:
                    self.assertNotEqual(placed_too(book, found[0]), placed_too(book.without(at), found[0]))
            self.assertEqual(idle_rules(book), tuple(idle))
            rest = book
            while idle_rules(rest):
                rest = rest.without(idle_rules(rest)[0])
            self.assertEqual(lean(book), rest)
            self.assertTrue(have_equal_places(book, lean(book)))
            self.assertEqual(idle_rules(lean(book)), ())
            idle_alone += len(book) - len(rest) < len(idle)
        self.assertGreater(idle_alone, 1)

    def test_rules_that_are_idle_alone_but_not_together(self):
        twice = Book("ab", ("a", ANYTHING, ANYTHING, "x"), ("a", ANYTHING, ANYTHING, "x"))
        self.assertEqual([idle_rules(twice), lean(twice)], [(0, 1), twice.without(0)])
        three = Book("ab", ("a", ANYTHING, NEXT_B, "x"), ("a", NEXT_B, ANYTHING, "x"), ("a", ANYTHING, ANYTHING, "x"))
        self.assertEqual([idle_rules(three), lean(three)], [(0, 1), Book("ab", three[2])])
        # A rule that writes the letter itself can be needed.
        keep = Book("ab", ("a", ANYTHING, NEXT_B, "a"), ("a", ANYTHING, ANYTHING, "x"), ("b", ANYTHING, ANYTHING, "b"))
        self.assertEqual([idle_rules(keep), lean(keep)], [(2,), keep.without(2)])


class TestLimits(Refusals, unittest.TestCase):
    CALLS = (lambda book: book.place_machine(), lambda book: have_equal_places(book, book), lambda book: parting_place(book, book), idle_rules, lean)

    def test_sights(self):
        just, more = book_of(256, behind=True), book_of(257, behind=True)
        self.assertEqual([len(sights_of(book)) for book in (just, more)], [256, 257])
        self.assertLessEqual(len(just.place_marks()), 256)
        for call in self.CALLS + (lambda book: book.place_marks(),):
            call(just)
            self.assertEqual(self.refused(TooMany, call, more).limit, 256)
        self.assertEqual(more("abcd" * 15), "".join(placed_too(more, "abcd" * 15)))

    def test_traces(self):
        just, more = book_of(1000, behind=False), book_of(1001, behind=False)
        self.assertEqual([len(traces_of(book)) for book in (just, more)], [1000, 1001])
        for call in self.CALLS:
            call(just)
            self.assertEqual(self.refused(TooMany, call, more).limit, 1000)
        self.assertEqual([len(book.place_marks()) for book in (just, more)], [1, 1])
        self.assertEqual(just.place_machine()("abcd" * 15), just("abcd" * 15))

    def test_traces_times_marks(self):
        next_but_one = ((("abcd", "one"), ("b", "one")), False)
        for many, chosen, behind, traces, marks in ((1000, (0, 1, 3, 4, 6, 7), next_but_one, 250, 4), (1000, (0, 1, 2, 3, 5, 7), NEXT_B, 531, 2),
                                                    (1001, (1, 4, 5, 6, 7), next_but_one, 201, 4), (1001, (0, 1, 2, 3, 5, 6), NEXT_B, 513, 2)):
            rules = book_of(many, behind=False).rules
            book = Book.of("abcd", (("a", ANYTHING, behind, "q"),) + tuple(rules[at] for at in chosen))
            self.assertEqual((len(traces_of(book)), len(book.place_marks())), (traces, marks))
            for call in self.CALLS:
                if traces * marks > 1000:
                    self.assertEqual(self.refused(TooMany, call, book).limit, 1000)
                else:
                    call(book)

    def test_only_the_book_itself_is_counted_for_idle_rules(self):
        # The first rule hides the last one, which tells marks; without the first one there is too much to see.
        rules = book_of(1000, behind=False).rules
        seeing = tuple(("bcd"[at % 3],) + rules[at][1:] for at in (0, 1, 2, 3, 5, 7))
        book = Book.of("abcd", (("a", ANYTHING, ANYTHING, "q"),) + seeing + (("a", ANYTHING, NEXT_B, "x"),))
        self.assertEqual([len(book.place_marks()), len(traces_of(book))], [1, 531])
        self.assertEqual(self.refused(TooMany, book.without(0).place_machine).limit, 1000)
        self.assertEqual(self.refused(TooMany, have_equal_places, book, book.without(0)).limit, 1000)
        idle = idle_rules(book)
        self.assertIn(7, idle)
        self.assertNotIn(0, idle)
        rest = lean(book)
        self.assertEqual(rest[0], book[0])
        self.assertTrue(have_equal_places(book, rest))

    def test_sights_then_traces_of_the_first_book_and_then_of_the_other_one(self):
        sights, traces = book_of(257, behind=True), book_of(1001, behind=False)
        plain = Book("abcd")
        for call in (have_equal_places, parting_place):
            for one, other, limit in ((sights, traces, 256), (traces, sights, 1000), (plain, sights, 256), (plain, traces, 1000), (sights, plain, 256), (traces, plain, 1000)):
                self.assertEqual(self.refused(TooMany, call, one, other).limit, limit)
        both = Book.of("abcd", tuple(rule[:2] + other[2:] for rule, other in zip(traces.rules, sights.rules)))
        for call in self.CALLS:
            self.assertEqual(self.refused(TooMany, call, both).limit, 256)

    def test_books_and_letters(self):
        sights = book_of(257, behind=True)
        for value in any_values():
            if not isinstance(value, Book):
                for call in (have_equal_places, parting_place):
                    self.refused(InvalidBook, call, value, None)
                    self.refused(InvalidBook, call, BOOK, value)
                    self.refused(InvalidBook, call, sights, value)
                for call in (idle_rules, lean):
                    self.refused(InvalidBook, call, value)
        for call in (have_equal_places, parting_place):
            self.refused(InvalidOperation, call, BOOK, Book("a"))
            self.refused(InvalidOperation, call, sights, BOOK)
            self.refused(InvalidOperation, call, BOOK, sights)


if __name__ == "__main__":
    unittest.main()
