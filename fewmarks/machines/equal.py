"""Whether two rewriters have the same results, with papers for both cases."""
from fewmarks.base.rewriters import check_rewriter
from fewmarks.base.words import is_word
from fewmarks.core.kinds import is_tuple_of
from fewmarks.core.places import SetPlaces, are_pairs, pairs_or_text
from fewmarks.core.runs import one_result
from fewmarks.core.singles import are_delays, check_single, paper_between
from fewmarks.errors import InvalidOperation
from fewmarks.rests.rests import checked_sets


def have_equal_results(one, other):
    """Whether each text has the same result in both, or in neither."""
    return equality_paper(one, other)[0] == "equal"


def equality_paper(one, other):
    """Any equality paper: closed tables, or a text that shows that the results are not the same."""
    _check_both(one, other)
    told = pairs_or_text(one.letters, SetPlaces(one), SetPlaces(other), _last_sets(one, other))
    if told[0] == "text":
        return "unlike", told[1]
    paper = paper_between(one, other)
    if paper[0] == "two":
        return "unlike", paper[1]
    return "equal", told[1], paper[1]


def is_equality_paper(one, other, value):
    """Whether the value is an equality paper of the two."""
    _check_both(one, other)
    if is_tuple_of(value, 3) and value[0] == "equal":
        pairs, delays = value[1:]
        return (are_pairs(one.letters, SetPlaces(one), SetPlaces(other), _last_sets(one, other), pairs)
                and are_delays(one, other, delays))
    if is_tuple_of(value, 2) and value[0] == "unlike" and is_word(value[1]):
        return one_result(one, value[1]) != one_result(other, value[1])
    return False


def parting_text(one, other):
    """Any triple (text, result, result) of a text whose results are not the same, or None."""
    paper = equality_paper(one, other)
    if paper[0] == "equal":
        return None
    return paper[1], one_result(one, paper[1]), one_result(other, paper[1])


def _check_both(one, other):
    check_rewriter(one)
    check_rewriter(other)
    if one.letters != other.letters:
        raise InvalidOperation("unlike letters")
    check_single(one)
    check_single(other)
    checked_sets(one)
    checked_sets(other)


def _last_sets(one, other):
    """The rest sets of both for the rest without letters."""
    return tuple(one.ends), tuple(other.ends)
