"""Operations: what becomes of rewriters, with the same results as the operators ~, | and >>."""
from fewmarks.base.rewriters import Rewriter, check_rewriter, made
from fewmarks.base.words import is_word
from fewmarks.core.joins import numbered_parts
from fewmarks.errors import InvalidOperation
from fewmarks.machines.marks import check_marks


def turned(rewriter):
    """The rewriter that reads and writes backwards."""
    check_rewriter(rewriter)
    return ~rewriter


def chosen(one, other):
    """The rewriter with the results of both."""
    check_rewriter(one)
    return one | other


def behind(one, other):
    """The rewriter with the results of the second one for those of the first one."""
    check_rewriter(one)
    return one >> other


def restricted(rewriter, marks):
    """The rewriter with the results of texts with a good mark alone."""
    check_rewriter(rewriter)
    check_marks(marks)
    if rewriter.letters != marks.letters:
        raise InvalidOperation("unlike letters")
    starts = {(state, mark): word for state, word in rewriter.starts.items() for mark in marks.good}
    ends = {(state, 0): word for state, word in rewriter.ends.items()}
    ahead = marks.steps
    edges = [((state, ahead[(letter, mark)]), letter, word, (after, mark))
             for state, letter, word, after in rewriter.edges for mark in marks]
    return made(numbered_parts(rewriter.letters, starts, edges, ends))


def relettered(rewriter, letters):
    """The rewriter that reads other letters, told by a dict from just its letters, and writes the same words."""
    check_rewriter(rewriter)
    if not _is_relettering(rewriter.letters, letters):
        raise InvalidOperation("not a dict from just the letters to different letters")
    edges = [(state, letters[letter], word, after) for state, letter, word, after in rewriter.edges]
    return Rewriter("".join(sorted(list(letters.values()))), rewriter.starts, tuple(edges), rewriter.ends)


def _is_relettering(letters, value):
    """Whether this is a dict from just these letters to different letters."""
    if not isinstance(value, dict) or not all([isinstance(letter, str) for letter in value]):
        return False
    if sorted(list(value)) != list(letters):
        return False
    images = list(value.values())
    if not all([is_word(image) and len(image) == 1 for image in images]):
        return False
    return len(set(images)) == len(images)
