"""Early machines: with their marks, they write as soon as it is known what is to be written."""
from fewmarks.base.rewriters import check_rewriter
from fewmarks.core.checks import check_text
from fewmarks.core.spreads import Spreads
from fewmarks.errors import InvalidOperation, TooMany
from fewmarks.machines.machines import MAX_WRITER, check_machine, fewest, same_good
from fewmarks.machines.marks import check_marks, classes_of_rests, mapped, marks_along


def early(rewriter, *, marks=None):
    """The two-pass machine with the early writer for these marks, or for the least ones."""
    check_rewriter(rewriter)
    if marks is not None:
        check_marks(marks)
    least, _ = classes_of_rests(rewriter)
    if marks is None:
        return _early_machine(rewriter, least)
    if not _serves(marks, least):
        raise InvalidOperation("not marks that serve the rewriter")
    return _early_machine(rewriter, marks)


def serve(marks, rewriter):
    """Whether the marks serve the rewriter: whether there is a two-pass machine with them that does it."""
    check_marks(marks)
    check_rewriter(rewriter)
    least, _ = classes_of_rests(rewriter)
    return _serves(marks, least)


def is_early(machine, rewriter):
    """Whether the machine is the early one of the rewriter for its marks."""
    check_machine(machine)
    check_rewriter(rewriter)
    least, _ = classes_of_rests(rewriter)
    return _serves(machine.marks, least) and machine == _early_machine(rewriter, machine.marks)


def spread(rewriter, text, rest):
    """The spread of the text and the least mark of the rest, a dict from states to words."""
    _check_texts(rewriter, text, rest)
    least, _ = classes_of_rests(rewriter)
    _, (_, found) = _behind_text(Spreads(rewriter, least), least, text, rest)
    return {state: word for state, word in found}


def written(rewriter, text, rest):
    """What the early writer with the least marks has written behind the text, ahead of the mark of the rest."""
    _check_texts(rewriter, text, rest)
    least, _ = classes_of_rests(rewriter)
    spreads = Spreads(rewriter, least)
    word, (mark, found) = _behind_text(spreads, least, text, rest)
    # Only to refuse what has too many spreads.
    all_spreads(spreads, least)
    return word + spreads.sure(mark, found)


def _check_texts(rewriter, text, rest):
    check_rewriter(rewriter)
    check_text(rewriter, text)
    check_text(rewriter, rest)


def _serves(marks, least):
    """Whether marks serve a rewriter with these least marks."""
    if marks.letters != least.letters:
        return False
    image = mapped(marks, least)
    return image is not None and same_good(marks, least, image)


def _behind_text(spreads, marks, text, rest):
    """What all paths have written behind a text, and the pair of the mark and the spread there."""
    row = marks_along(marks.steps, text + rest)
    if row[0] not in marks.good:
        raise InvalidOperation("the text has no result ahead of the rest")
    word, found = spreads.at_begin(row[0])
    words = [word]
    for at, letter in enumerate(text):
        word, found = spreads.behind(found, letter, row[at + 1])
        words.append(word)
    return "".join(words), (row[len(text)], found)


def all_spreads(spreads, marks):
    """Begins, steps and states of a writer whose states are the pairs of a mark and a spread.

    It writes what all paths have written, which can be less than what is known.
    """
    begins = {}
    for mark in marks.good:
        word, found = spreads.at_begin(mark)
        begins[mark] = (word, (mark, found))
    steps = {}
    row = [node for _, node in begins.values()]
    seen = {node: True for node in row}
    at = 0
    while at < len(row):
        if len(row) > MAX_WRITER:
            raise TooMany(MAX_WRITER)
        mark, found = row[at]
        for letter, behind in marks[mark]:
            word, after = spreads.behind(found, letter, behind)
            steps[(row[at], letter, behind)] = (word, (behind, after))
            if (behind, after) not in seen:
                seen[(behind, after)] = True
                row.append((behind, after))
        at += 1
    return begins, steps, row


def _early_machine(rewriter, marks):
    """The two-pass machine with the early writer for marks that serve the rewriter."""
    spreads = Spreads(rewriter, marks)
    begins, steps, nodes = all_spreads(spreads, marks)
    sure = {node: spreads.sure(node[0], node[1]) for node in nodes}
    begins = {mark: (word + sure[node], node) for mark, (word, node) in begins.items()}
    steps = {triple: ((word + sure[after])[len(sure[triple[0]]):], after) for triple, (word, after) in steps.items()}
    ends = {node: spreads.at_end(node[1])[len(sure[node]):] for node in nodes if node[0] == 0}
    return fewest(marks, nodes, begins, steps, ends)
