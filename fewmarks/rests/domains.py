"""Whether just the same texts have a result ahead of two rests, with papers for both cases."""
from fewmarks.base.rewriters import check_rewriter
from fewmarks.base.words import is_word
from fewmarks.core.checks import check_text
from fewmarks.core.kinds import is_tuple_of
from fewmarks.core.places import SetPlaces, are_pairs, pairs_or_text
from fewmarks.core.runs import has_result, lefts_along
from fewmarks.rests.rests import checked_sets


def have_same_domain(rewriter, rest, other):
    """Whether each text has a result ahead of both rests or of neither."""
    return domain_paper(rewriter, rest, other)[0] == "same"


def domain_paper(rewriter, rest, other):
    """Any domain paper of two rests: a closed tuple of pairs of sets, or a text."""
    _check(rewriter, rest, other)
    return domain_paper_of(rewriter, rest, other)


def is_domain_paper(rewriter, rest, other, value):
    """Whether the value is a domain paper of the two rests."""
    _check(rewriter, rest, other)
    if not is_tuple_of(value, 2):
        return False
    if value[0] == "same":
        return are_domain_pairs(rewriter, rest, other, value[1])
    return value[0] == "text" and is_parting_text(rewriter, rest, other, value[1])


def domain_paper_of(rewriter, rest, other):
    """Any domain paper of what is known to be two rests."""
    sets = SetPlaces(rewriter)
    return pairs_or_text(rewriter.letters, sets, sets, _sets_of(rewriter, rest, other))


def are_domain_pairs(rewriter, rest, other, value):
    """Whether these are the pairs of a domain paper."""
    sets = SetPlaces(rewriter)
    return are_pairs(rewriter.letters, sets, sets, _sets_of(rewriter, rest, other), value)


def is_parting_text(rewriter, rest, other, value):
    """Whether this is a text that has a result ahead of just one of two rests."""
    return is_word(value) and has_result(rewriter, value + rest) != has_result(rewriter, value + other)


def _sets_of(rewriter, rest, other):
    return lefts_along(rewriter, rest)[0], lefts_along(rewriter, other)[0]


def _check(rewriter, rest, other):
    check_rewriter(rewriter)
    check_text(rewriter, rest)
    check_text(rewriter, other)
    checked_sets(rewriter)
