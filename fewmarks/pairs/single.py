"""Whether a rewriter has one result for each text at most, with papers for both cases."""
from fewmarks.base.rewriters import check_rewriter
from fewmarks.core.kinds import is_tuple_of
from fewmarks.core.singles import are_delays, paper_of
from fewmarks.core.trails import is_complete, is_trail, text_of, written_by


def is_single(rewriter):
    """Whether no text has two results."""
    check_rewriter(rewriter)
    return paper_of(rewriter)[0] == "single"


def single_paper(rewriter):
    """Any single paper: delays of all live pairs, or a text with two results."""
    check_rewriter(rewriter)
    return paper_of(rewriter)


def is_single_paper(rewriter, value):
    """Whether the value is a single paper of the rewriter."""
    check_rewriter(rewriter)
    if is_tuple_of(value, 2) and value[0] == "single":
        return are_delays(rewriter, rewriter, value[1])
    if is_tuple_of(value, 4) and value[0] == "two":
        return _are_two(rewriter, value[1], value[2], value[3])
    return False


def _are_two(rewriter, text, path, other):
    """Whether these are complete paths that read the text and do not write the same."""
    for value in (path, other):
        if not is_trail(rewriter, value) or not is_complete(rewriter, value) or text_of(value[1]) != text:
            return False
    return written_by(rewriter, path) != written_by(rewriter, other)
