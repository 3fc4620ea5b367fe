"""Books of rules: for each letter of a text the first rule that applies there tells the word."""
from fewmarks.base.rewriters import MAX_WORD
from fewmarks.base.words import is_letters, is_word
from fewmarks.books.looks import matched_along, matches_met, traces_met
from fewmarks.books.patterns import is_matched, is_pattern, turned_round
from fewmarks.core.checks import check_text
from fewmarks.core.classes import same_classes
from fewmarks.core.kinds import is_below, is_letter_of, is_tuple_of
from fewmarks.errors import InvalidBook, InvalidNumber, InvalidOperation, TooMany
from fewmarks.machines.machines import MAX_WRITER, fewest
from fewmarks.machines.marks import MAX_MARKS, Marks

MAX_RULES = 8
MAX_ITEMS = 3


class Book:
    """A book of rules; it never changes."""

    def __init__(self, letters, *rules):
        if not is_letters(letters):
            raise InvalidBook("not an ascending string of one to four letters")
        if len(rules) > MAX_RULES:
            raise InvalidBook("more than eight rules")
        if not all([_is_rule(letters, rule) for rule in rules]):
            raise InvalidBook("not a rule for these letters")
        self._letters = letters
        self._rules = rules

    @classmethod
    def of(cls, letters, rules):
        """The book with a tuple of rules."""
        if not isinstance(rules, tuple):
            raise InvalidBook("not a tuple of rules")
        return cls(letters, *rules)

    @property
    def letters(self):
        """The letters that texts may have."""
        return self._letters

    @property
    def rules(self):
        """The tuple of the rules."""
        return self._rules

    def __call__(self, text):
        """The result of a text."""
        return "".join(self.placed(text))

    def placed(self, text):
        """The tuple of the words for the letters of a text."""
        check_text(self, text)
        return tuple([_word_of(self._rules, at, letter)
                      for at, letter in zip(_rules_along(self._rules, text), text)])

    def rule_at(self, text, index):
        """The index of the rule that applies at a letter of a text, or None."""
        check_text(self, text)
        if not is_below(index, len(text)):
            raise InvalidNumber(index)
        return _rules_along(self._rules, text)[index]

    def place_marks(self):
        """The least marks in place."""
        marks, _ = _marks_of_sights(self._letters, self._rules)
        return marks

    def place_machine(self):
        """The least machine in place."""
        marks, nodes, steps = _steps_in_place(self._letters, self._rules)
        return fewest(marks, nodes, {mark: ("", (mark, 0)) for mark in marks}, steps,
                      {node: "" for node in nodes if node[0] == 0})

    def with_rule(self, at, rule):
        """The book with a rule more, so that its index is `at`."""
        if not is_below(at, len(self._rules) + 1):
            raise InvalidNumber(at)
        return Book.of(self._letters, self._rules[:at] + (rule,) + self._rules[at:])

    def without(self, at):
        """The book without a rule."""
        self._check_index(at)
        return Book.of(self._letters, self._rules[:at] + self._rules[at + 1:])

    def moved(self, at, to):
        """The book in which a rule is taken out and put in again with the index `to`."""
        self._check_index(at)
        self._check_index(to)
        others = self._rules[:at] + self._rules[at + 1:]
        return Book.of(self._letters, others[:to] + (self._rules[at],) + others[to:])

    def __getitem__(self, k):
        if not is_below(k, len(self._rules)):
            raise InvalidNumber(k)
        return self._rules[k]

    def __iter__(self):
        return iter(self._rules)

    def __len__(self):
        return len(self._rules)

    def __eq__(self, other):
        return isinstance(other, Book) and self._letters == other._letters and self._rules == other._rules

    def __str__(self):
        return f"book of {len(self._rules)} rules for {self._letters}"

    def _check_index(self, at):
        if not is_below(at, len(self._rules)):
            raise InvalidNumber(at)


def have_equal_places(book, other):
    """Whether two books have the same placed results."""
    _check_both(book, other)
    return book.place_machine() == other.place_machine()


def parting_place(book, other):
    """Any tuple (text, index, word, word) of a letter with unlike words in two books, or None."""
    if have_equal_places(book, other):
        return None
    for letter in book.letters:
        found = _parting_letter(letter, book, other)
        if found is not None:
            return found
    return None


def idle_rules(book):
    """The ascending tuple of the indices of the rules each of which alone can be left out."""
    check_book(book)
    # Only to refuse what has too many sights or traces.
    _steps_in_place(book.letters, book.rules)
    return _idle(book.letters, book.rules)


def lean(book):
    """The book without the first idle rule, again and again, as long as there is one."""
    idle = idle_rules(book)
    while idle:
        book = book.without(idle[0])
        idle = _idle(book.letters, book.rules)
    return book


def check_book(value):
    """Refuses what is no book."""
    if not isinstance(value, Book):
        raise InvalidBook("not a book")


def _check_both(book, other):
    check_book(book)
    check_book(other)
    if book.letters != other.letters:
        raise InvalidOperation("unlike letters")


def _is_rule(letters, value):
    """Whether a book with these letters can have this rule."""
    if not is_tuple_of(value, 4):
        return False
    letter, before, behind, word = value
    if not is_letter_of(letters, letter) or not is_word(word) or len(word) > MAX_WORD:
        return False
    return all([is_pattern(pattern) and _has_letters(letters, pattern) for pattern in (before, behind)])


def _has_letters(letters, pattern):
    """Whether a pattern has none but these letters."""
    return all([part.strip(letters) == "" for part, _ in pattern[0]])


def _word_of(rules, at, letter):
    """The word of a rule, or the letter itself if there is none."""
    return letter if at is None else rules[at][3]


def _befores(rules):
    return [rule[1] for rule in rules]


def _behinds(rules):
    """The patterns of what comes behind, for texts that are read backwards."""
    return [turned_round(rule[2]) for rule in rules]


def _rules_along(rules, text):
    """For each letter of a text the index of the rule that applies there, or None."""
    fronts = matched_along(_befores(rules), text)
    backs = matched_along(_behinds(rules), text[::-1])[::-1]
    return [_first_rule(rules, letter, fronts[at], backs[at + 1]) for at, letter in enumerate(text)]


def _first_rule(rules, letter, front, back):
    """The index of the first rule for a letter that both sides let, or None."""
    for at, rule in enumerate(rules):
        if rule[0] == letter and front[at] and back[at]:
            return at
    return None


def _rules_for(rules, letter):
    return [rule for rule in rules if rule[0] == letter]


def _fronts_of(letters, rules):
    """All that texts in front of a letter can tell rules: for each one whether it is let."""
    patterns = _befores(rules)
    return [flags for flags, _ in matches_met(letters, patterns)]


def _backs_of(letters, rules):
    """All that texts behind a letter can tell rules, each with the first such text, in a dict."""
    patterns = _behinds(rules)
    return {flags: text[::-1] for flags, text in matches_met(letters, patterns)}


def _matched(patterns, row):
    """Which patterns match, by a tuple of traces."""
    return [is_matched(pattern, trace) for pattern, trace in zip(patterns, row)]


def _marks_of_sights(letters, rules):
    """The least marks in place, and for each of them which rules the first of its sights lets."""
    behinds = _behinds(rules)
    rows, steps = traces_met(letters, behinds, MAX_MARKS)
    if len(rows) > MAX_MARKS:
        raise TooMany(MAX_MARKS)
    fronts = {letter: _fronts_of(letters, _rules_for(rules, letter)) for letter in letters}
    backs = [_matched(behinds, row) for row in rows]
    kinds = {at: _words_told(rules, fronts, back) for at, back in enumerate(backs)}
    classes = same_classes(kinds, {at: [steps[(letter, at)] for letter in letters] for at in kinds})
    many = len(set(list(classes.values())))
    marks = Marks(letters, {(letter, classes[at]): classes[after] for (letter, at), after in steps.items()},
                  tuple(range(many)))
    lets = {}
    for at in classes:
        lets.setdefault(classes[at], backs[at])
    return marks, lets


def _words_told(rules, fronts, back):
    """For each letter, and each text in front of it, the word that is told by what stands behind it."""
    told = []
    for letter in fronts:
        some = _rules_for(rules, letter)
        lets = [back[at] for at, rule in enumerate(rules) if rule[0] == letter]
        for front in fronts[letter]:
            told.append(_word_of(some, _first_rule(some, letter, front, lets), letter))
    return tuple(told)


def _steps_in_place(letters, rules):
    """The least marks in place, and a writer's states, pairs (mark, index of a tuple of traces), and steps."""
    marks, lets = _marks_of_sights(letters, rules)
    befores = _befores(rules)
    limit = MAX_WRITER // len(marks)
    rows, onward = traces_met(letters, befores, limit)
    if len(rows) > limit:
        raise TooMany(MAX_WRITER)
    fronts = [_matched(befores, row) for row in rows]
    steps = {}
    for mark in marks:
        for letter, behind in marks[mark]:
            for at, front in enumerate(fronts):
                word = _word_of(rules, _first_rule(rules, letter, front, lets[behind]), letter)
                steps[((mark, at), letter, behind)] = (word, (behind, onward[(letter, at)]))
    return marks, [(mark, at) for mark in marks for at in range(len(rows))], steps


def _parting_letter(letter, book, other):
    """A tuple (text, index, word, word) of a place of this letter, or None."""
    some, others = _rules_for(book.rules, letter), _rules_for(other.rules, letter)
    many = len(some)
    backs = _backs_of(book.letters, some + others)
    patterns = _befores(some + others)
    for front, text in matches_met(book.letters, patterns):
        for back in backs:
            word = _word_of(some, _first_rule(some, letter, front[:many], back[:many]), letter)
            against = _word_of(others, _first_rule(others, letter, front[many:], back[many:]), letter)
            if word != against:
                return text + letter + backs[back], len(text), word, against
    return None


def _idle(letters, rules):
    """The ascending tuple of the indices of the idle rules."""
    needed = {}
    for letter in letters:
        some = [at for at, rule in enumerate(rules) if rule[0] == letter]
        fronts = _fronts_of(letters, _rules_for(rules, letter))
        backs = list(_backs_of(letters, _rules_for(rules, letter)))
        for front in fronts:
            for back in backs:
                lets = [at for at, first, last in zip(some, front, back) if first and last] + [None, None]
                if _word_of(rules, lets[0], letter) != _word_of(rules, lets[1], letter):
                    needed[lets[0]] = True
    return tuple([at for at in range(len(rules)) if at not in needed])
