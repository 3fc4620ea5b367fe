"""Paths of a rewriter, the results of texts, and the texts that have one."""
from fewmarks.base.rewriters import check_rewriter
from fewmarks.base.words import check_length
from fewmarks.core.checks import check_text
from fewmarks.core.kinds import is_below
from fewmarks.core.runs import edges_by_start, lefts_along, sets_met, some_results, targets_of
from fewmarks.core.trails import is_trail, text_of, written_by
from fewmarks.errors import InvalidNumber, InvalidOperation

# Twelve states have no more sets than this.
_ALL_SETS = 4096


def is_path(rewriter, value):
    """Whether the value is a path of the rewriter."""
    check_rewriter(rewriter)
    return is_trail(rewriter, value)


def reads(rewriter, path):
    """What a path reads."""
    check_rewriter(rewriter)
    _check_path(rewriter, path)
    return text_of(path[1])


def writes(rewriter, path):
    """What a path writes, with the word of the end if it is complete."""
    check_rewriter(rewriter)
    _check_path(rewriter, path)
    return written_by(rewriter, path)


def paths(rewriter, text):
    """A generator of all complete paths that read the text, ascending."""
    check_rewriter(rewriter)
    check_text(rewriter, text)
    forth = edges_by_start(rewriter)
    lefts = lefts_along(rewriter, text)
    starts = [state for state in rewriter.starts if state in lefts[0]]
    # The last one is taken next, so the greatest ones are put in first.
    waiting = [(start, start, ()) for start in starts[::-1]]
    while waiting:
        start, state, edges = waiting.pop()
        at = len(edges)
        if at == len(text):
            yield (start, edges)
        else:
            onward = [edge for edge in forth.get((state, text[at]), ()) if edge[3] in lefts[at + 1]]
            waiting.extend([(start, edge[3], edges + (edge,)) for edge in onward[::-1]])


def result(rewriter, text):
    """The result of a text, or None if there is none; no text with two is taken."""
    check_rewriter(rewriter)
    check_text(rewriter, text)
    found = some_results(rewriter, text, 1)
    if found is None:
        raise InvalidOperation("the text has two results")
    return found[0] if found else None


def domain_size(rewriter, length):
    """The number of the texts with exactly so many letters that have a result."""
    check_rewriter(rewriter)
    check_length(length)
    masks, numbers = _numbers_of_texts(rewriter, length)
    return _number_from(masks, numbers[length], tuple(rewriter.starts))


def texts_with_results(rewriter, length):
    """A generator of the texts with exactly so many letters that have a result, in order."""
    check_rewriter(rewriter)
    check_length(length)
    forth = edges_by_start(rewriter)
    able = _able_states(rewriter, length)
    waiting = [("", tuple(rewriter.starts))]
    while waiting:
        text, states = waiting.pop()
        left = length - len(text)
        if not any([state in able[left] for state in states]):
            continue
        if left == 0:
            yield text
        else:
            waiting.extend([(text + letter, targets_of(forth, states, letter))
                            for letter in rewriter.letters[::-1]])


def text_at(rewriter, length, index):
    """The text at an index among those with exactly so many letters that have a result."""
    check_rewriter(rewriter)
    check_length(length)
    masks, numbers = _numbers_of_texts(rewriter, length)
    states = tuple(rewriter.starts)
    if not is_below(index, _number_from(masks, numbers[length], states)):
        raise InvalidNumber(index)
    forth = edges_by_start(rewriter)
    text = ""
    for left in reversed(range(length)):
        for letter in rewriter.letters:
            after = targets_of(forth, states, letter)
            many = _number_from(masks, numbers[left], after)
            if index < many:
                break
            index -= many
        text += letter
        states = after
    return text


def _check_path(rewriter, path):
    if not is_trail(rewriter, path):
        raise InvalidOperation("not a path of the rewriter")


def _mask_of(states):
    """A number that has a bit for each of these states."""
    return sum([1 << state for state in states])


def _numbers_of_texts(rewriter, length):
    """The rest sets as masks, and for each length how many texts have each of these sets."""
    rows, steps = sets_met(rewriter, _ALL_SETS)
    numbers = [[1] + [0] * (len(rows) - 1)]
    for _ in range(length):
        row = [0] * len(rows)
        for (_, at), after in steps.items():
            row[after] += numbers[-1][at]
        numbers.append(row)
    return [_mask_of(row) for row in rows], numbers


def _number_from(masks, numbers, states):
    """How many texts lead from one of these states to an end."""
    mask = _mask_of(states)
    return sum([number for number, row in zip(numbers, masks) if row & mask])


def _able_states(rewriter, length):
    """For each number of letters the states from which such a text leads to an end."""
    rows = [tuple(rewriter.ends)]
    for _ in range(length):
        rows.append(tuple(sorted({edge[0] for edge in rewriter.edges if edge[3] in rows[-1]})))
    return rows
