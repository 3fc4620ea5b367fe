"""Patterns: what can stand in front of a letter, or behind it."""
from fewmarks.base.words import is_text, is_word
from fewmarks.core.kinds import is_tuple_of
from fewmarks.errors import InvalidBook, InvalidText

_MOST_ITEMS = 3
_KINDS = ("one", "any")


def is_pattern(value):
    """Whether the value is a pattern."""
    if not is_tuple_of(value, 2) or not isinstance(value[0], tuple) or not isinstance(value[1], bool):
        return False
    return len(value[0]) <= _MOST_ITEMS and all([_is_item(item) for item in value[0]])


def fits(pattern, text):
    """Whether the whole text can be cut into pieces for the items, whole or not."""
    _check(pattern, text)
    return is_matched((pattern[0], True), trace_of((pattern[0], True), text))


def begins_with(pattern, text):
    """Whether the text begins with one that fits, or is one if the pattern is whole."""
    _check(pattern, text)
    back = turned_round(pattern)
    return is_matched(back, trace_of(back, text[::-1]))


def ends_with(pattern, text):
    """Whether the text ends with one that fits, or is one if the pattern is whole."""
    _check(pattern, text)
    return is_matched(pattern, trace_of(pattern, text))


def turned_round(pattern):
    """The pattern for texts that are read backwards."""
    items, whole = pattern
    return items[::-1], whole


def trace_of(pattern, text):
    """The trace of a text of any length."""
    trace = first_trace(pattern)
    for letter in text:
        trace = next_trace(pattern, trace, letter)
    return trace


def first_trace(pattern):
    """For the text "", the numbers of first items that it ends with, as the bits of a number."""
    items, _ = pattern
    trace = 1
    for at, (_, kind) in enumerate(items):
        if kind == "any" and (trace >> at) & 1 == 1:
            trace += 1 << (at + 1)
    return trace


def next_trace(pattern, trace, letter):
    """The trace behind a letter more."""
    items, whole = pattern
    found = 0 if whole else 1
    for at, (letters, kind) in enumerate(items):
        # A piece of any number of letters can go on behind one that is there, or be without letters.
        before = (trace >> at) & 1 if kind == "one" else (trace >> (at + 1)) & 1
        empty = 0 if kind == "one" else (found >> at) & 1
        if empty == 1 or (before == 1 and letter in letters):
            found += 1 << (at + 1)
    return found


def is_matched(pattern, trace):
    """Whether a text with this trace ends with one that fits all items."""
    return (trace >> len(pattern[0])) & 1 == 1


def _check(pattern, text):
    if not is_pattern(pattern):
        raise InvalidBook("not a pattern")
    if not is_text(text):
        raise InvalidText("not a text of at most 60 letters")


def _is_item(value):
    """Whether this is a pair of an ascending string of letters and a kind."""
    if not is_tuple_of(value, 2) or not is_word(value[0]) or value[0] == "":
        return False
    return list(value[0]) == sorted(set(value[0])) and value[1] in _KINDS
