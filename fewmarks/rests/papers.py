"""Whether one mark does for two rests, with papers for both cases."""
from fewmarks.base.rewriters import check_rewriter
from fewmarks.base.words import check_length
from fewmarks.core.checks import check_text
from fewmarks.core.doubles import loud_among, reached_steps
from fewmarks.core.graphs import all_leads
from fewmarks.core.kinds import is_tuple_of
from fewmarks.core.runs import lefts_along, one_result
from fewmarks.core.singles import check_single
from fewmarks.core.tables import is_table, pairs_before
from fewmarks.core.wilds import closed_delays
from fewmarks.errors import InvalidOperation
from fewmarks.rests.domains import are_domain_pairs, domain_paper_of, is_parting_text
from fewmarks.rests.forks import fork_of, is_fork_for
from fewmarks.rests.rests import checked_sets


def are_alike(rewriter, rest, other):
    """Whether the results ahead of two rests stay near to each other, and exist for the same texts."""
    return rest_paper(rewriter, rest, other)[0] == "alike"


def rest_paper(rewriter, rest, other):
    """Any rest paper: closed tables for alike rests, otherwise a text or a fork."""
    _check_rests(rewriter, rest, other)
    _check_rewriter_of_rests(rewriter)
    told = domain_paper_of(rewriter, rest, other)
    if told[0] == "text":
        return "apart", told
    found = fork_of(rewriter, _left(rewriter, rest), _left(rewriter, other))
    if found is not None:
        return "apart", ("fork", found)
    steps = reached_steps(rewriter)
    return "alike", told[1], closed_delays(rewriter, steps, _pairs_of_table(rewriter, steps, rest, other))


def is_rest_paper(rewriter, rest, other, value):
    """Whether the value is a rest paper of the two rests."""
    _check_rests(rewriter, rest, other)
    _check_rewriter_of_rests(rewriter)
    if is_tuple_of(value, 3) and value[0] == "alike":
        steps = reached_steps(rewriter)
        return (are_domain_pairs(rewriter, rest, other, value[1])
                and is_table(rewriter, steps, _pairs_of_table(rewriter, steps, rest, other), value[2]))
    return _tells_apart(rewriter, rest, other, value)


def parted(rewriter, rest, other, paper, many):
    """A triple (text, result, result) of a paper that tells two rests apart, many times round a fork."""
    _check_rests(rewriter, rest, other)
    check_length(many)
    _check_rewriter_of_rests(rewriter)
    if not _tells_apart(rewriter, rest, other, paper):
        raise InvalidOperation("not a paper that tells the two rests apart")
    kind, shown = paper[1]
    text = shown if kind == "text" else shown[0] + shown[1] * many + shown[2]
    return text, one_result(rewriter, text + rest), one_result(rewriter, text + other)


def _check_rests(rewriter, rest, other):
    check_rewriter(rewriter)
    check_text(rewriter, rest)
    check_text(rewriter, other)


def _check_rewriter_of_rests(rewriter):
    check_single(rewriter)
    checked_sets(rewriter)


def _left(rewriter, rest):
    return lefts_along(rewriter, rest)[0]


def _tells_apart(rewriter, rest, other, value):
    """Whether this is a rest paper that says that the rests are not alike."""
    if not is_tuple_of(value, 2) or value[0] != "apart" or not is_tuple_of(value[1], 2):
        return False
    kind, shown = value[1]
    if kind == "text":
        return is_parting_text(rewriter, rest, other, shown)
    return kind == "fork" and is_fork_for(rewriter, _left(rewriter, rest), _left(rewriter, other), shown)


def _pairs_of_table(rewriter, steps, rest, other):
    """The reached pairs that lead to a loud pair from which both rests lead to ends, perhaps later."""
    leads = all_leads(steps)
    goals = [(state, beside) for state in _left(rewriter, rest) for beside in _left(rewriter, other)]
    loud = [pair for pair in loud_among(steps, leads) if any([goal in leads[pair] for goal in goals])]
    return pairs_before(steps, loud)
