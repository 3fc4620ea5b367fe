"""Forks: what two paths have written differs more and more, as far back as one likes."""
from fewmarks.base.rewriters import check_rewriter
from fewmarks.base.words import check_length, is_word, left_over
from fewmarks.core.checks import check_states
from fewmarks.core.doubles import double_of, reached_steps
from fewmarks.core.graphs import first_ways, way_to
from fewmarks.core.kinds import is_tuple_of
from fewmarks.core.trails import is_trail, last_state, text_of, written_before_end
from fewmarks.core.wilds import lassos, wild_among
from fewmarks.errors import InvalidOperation


def wild_pairs(rewriter):
    """The ascending tuple of the pairs of states that have a fork."""
    check_rewriter(rewriter)
    steps = reached_steps(rewriter)
    return tuple(wild_among(steps, lassos(rewriter, steps)))


def fork(rewriter, first, second):
    """Any fork for two tuples of states, or None."""
    check_rewriter(rewriter)
    check_states(rewriter, first)
    check_states(rewriter, second)
    return fork_of(rewriter, first, second)


def is_fork(rewriter, first, second, value):
    """Whether the value is a fork for two tuples of states."""
    check_rewriter(rewriter)
    check_states(rewriter, first)
    check_states(rewriter, second)
    return is_fork_for(rewriter, first, second, value)


def fork_delay(rewriter, fork, many):
    """The delay of what both paths have written behind the first text and so many times the second one."""
    check_rewriter(rewriter)
    if not is_fork_for(rewriter, rewriter.states, rewriter.states, fork):
        raise InvalidOperation("not a fork for all states of the rewriter")
    check_length(many)
    one, two, _, path, other = fork
    words = [_written_round(rewriter, trail, len(one), len(two), many) for trail in (path, other)]
    return left_over(words[0], words[1])


def fork_of(rewriter, first, second):
    """Any fork for two tuples of what is known to be states, or None."""
    steps = reached_steps(rewriter)
    made = lassos(rewriter, steps)
    for root in made:
        found = first_ways([root], steps)
        goals = [(state, beside) for state in first for beside in second if (state, beside) in found]
        if goals:
            _, onward = way_to(found, goals[0])
            return _fork_along(made[root], onward)
    return None


def is_fork_for(rewriter, first, second, value):
    """Whether the value is a fork for two tuples of what is known to be states."""
    if not is_tuple_of(value, 5) or not all([is_word(part) for part in value[:3]]):
        return False
    one, two, three, path, other = value
    for trail in (path, other):
        if not is_trail(rewriter, trail) or text_of(trail[1]) != one + two + three:
            return False
        if last_state(_begin_of(trail, len(one))) != last_state(_begin_of(trail, len(one + two))):
            return False
    if two == "" or last_state(path) not in first or last_state(other) not in second:
        return False
    return _delay_at(rewriter, path, other, len(one)) != _delay_at(rewriter, path, other, len(one + two))


def _begin_of(path, many):
    """The path of the first letters of a path, so many of them."""
    state, edges = path
    return state, edges[:many]


def _delay_at(rewriter, path, other, many):
    """The delay of two paths behind so many letters."""
    return left_over(written_before_end(rewriter, _begin_of(path, many)),
                     written_before_end(rewriter, _begin_of(other, many)))


def _written_round(rewriter, path, before, length, many):
    """What a path writes if it goes so many times round a circle of some length."""
    state, edges = path
    return written_before_end(rewriter, (state, edges[:before] + edges[before:before + length] * many))


def _fork_along(lasso, onward):
    """The fork of a lasso and a row of steps behind it."""
    begin, before, ring = lasso
    one, two, three = [double_of(begin, labels)[0] for labels in (before, ring, onward)]
    _, path, other = double_of(begin, before + ring + onward)
    return one, two, three, path, other
