"""Words and texts, and the delay between two words."""
from fewmarks.core.kinds import is_below, is_tuple_of
from fewmarks.errors import InvalidNumber, InvalidOperation, InvalidText

MAX_TEXT = 60

_ALPHABET = "abcdefghijklmnopqrstuvwxyz"
_MOST_LETTERS = 4


def is_word(value):
    """Whether the value is a string of letters."""
    # Stripping stops at the first other sign, so that one would be left.
    return isinstance(value, str) and value.strip(_ALPHABET) == ""


def is_text(value):
    """Whether the value is a word of at most 60 letters."""
    return is_word(value) and len(value) <= MAX_TEXT


def is_letters(value):
    """Whether the value is an ascending string of one to four letters."""
    if not is_word(value) or not 1 <= len(value) <= _MOST_LETTERS:
        return False
    return list(value) == sorted(set(value))


def is_delay(value):
    """Whether the value is a pair of words that do not begin with the same letter."""
    if not is_tuple_of(value, 2) or not all([is_word(word) for word in value]):
        return False
    return value[0] == "" or value[1] == "" or value[0][0] != value[1][0]


def common_beginning(*words):
    """The longest common beginning of one or more words."""
    if not words:
        raise InvalidOperation("no words")
    for word in words:
        _check_word(word)
    return shared_beginning(words)


def delay(word, other):
    """What is left of both words behind their longest common beginning."""
    _check_word(word)
    _check_word(other)
    return left_over(word, other)


def distance(word, other):
    """The number of letters of the delay of both words."""
    _check_word(word)
    _check_word(other)
    rest, other_rest = left_over(word, other)
    return len(rest) + len(other_rest)


def led_on(delay, word, other):
    """The delay behind further words."""
    _check_delay(delay)
    _check_word(word)
    _check_word(other)
    return left_over(delay[0] + word, delay[1] + other)


def ahead_by(delay):
    """By how many letters the first word of a delay is longer; below 0 if the second one is."""
    _check_delay(delay)
    return len(delay[0]) - len(delay[1])


def texts(letters, length):
    """A generator of all texts of these letters with at most so many letters, in order."""
    if not is_letters(letters):
        raise InvalidOperation("not an ascending string of one to four letters")
    check_length(length)
    for size in range(length + 1):
        waiting = [""]
        while waiting:
            text = waiting.pop()
            if len(text) == size:
                yield text
            else:
                waiting.extend([text + letter for letter in letters[::-1]])


def in_order(texts):
    """The tuple of the different words of a tuple, shorter ones first."""
    if not isinstance(texts, tuple) or not all([is_word(text) for text in texts]):
        raise InvalidOperation("not a tuple of words")
    return sorted_words(texts)


def sorted_words(words):
    """The tuple of the different ones of these words, in order."""
    return tuple(sorted(sorted(set(words)), key=len))


def shared_beginning(words):
    """The longest common beginning of what is known to be words, one or more."""
    found = words[0]
    for word in words:
        found = found[:_shared(found, word)]
    return found


def left_over(word, other):
    """The delay of what is known to be words."""
    many = _shared(word, other)
    return word[many:], other[many:]


def check_length(length):
    """Refuses what is no number of letters of a text."""
    if not is_below(length, MAX_TEXT + 1):
        raise InvalidNumber(length)


def _shared(word, other):
    """How many letters both words begin with together."""
    most = min(len(word), len(other))
    if word[:most] == other[:most]:
        return most
    many = 0
    for letter, against in zip(word, other):
        if letter != against:
            return many
        many += 1
    return many


def _check_word(value):
    if not is_word(value):
        raise InvalidText("not a string of letters")


def _check_delay(value):
    if not is_delay(value):
        raise InvalidOperation("not a delay")
