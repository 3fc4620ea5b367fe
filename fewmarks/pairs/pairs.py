"""Pairs of states that the same texts lead to, and the steps between them."""
from fewmarks.base.rewriters import check_rewriter
from fewmarks.base.words import left_over
from fewmarks.core.checks import check_pair
from fewmarks.core.doubles import (circle_from, double_of, double_steps, live_among, loud_among,
                                   reached_among, reached_steps, start_pairs)
from fewmarks.core.graphs import all_leads, first_ways, way_to
from fewmarks.core.trails import is_trail, text_of, written_before_end
from fewmarks.errors import InvalidOperation


def reached_pairs(rewriter):
    """The ascending tuple of the pairs to which two paths lead that read the same text."""
    check_rewriter(rewriter)
    return tuple(reached_among(rewriter, rewriter, double_steps(rewriter, rewriter)))


def loud_pairs(rewriter):
    """The ascending tuple of the reached pairs with steps back to them that write something."""
    check_rewriter(rewriter)
    steps = reached_steps(rewriter)
    return tuple(loud_among(steps, all_leads(steps)))


def live_pairs(rewriter):
    """The ascending tuple of the reached pairs from which the same text leads to ends."""
    check_rewriter(rewriter)
    return tuple(live_among(rewriter, rewriter, double_steps(rewriter, rewriter)))


def pair_steps(rewriter, pair):
    """The ascending tuple of the steps of a pair: (letter, word, other word, pair)."""
    check_rewriter(rewriter)
    check_pair(rewriter, pair)
    steps = double_steps(rewriter, rewriter)[pair]
    return tuple(sorted([(edge[1], edge[2], other[2], after) for (edge, other), after in steps]))


def leads_to(rewriter, pair, goal):
    """Whether a pair leads to another one; each one leads to itself."""
    check_rewriter(rewriter)
    check_pair(rewriter, pair)
    check_pair(rewriter, goal)
    return goal in first_ways([pair], double_steps(rewriter, rewriter))


def two_path(rewriter, pair):
    """Any triple (text, path, other) of two paths that read the text and lead to the pair."""
    check_rewriter(rewriter)
    check_pair(rewriter, pair)
    found = first_ways(start_pairs(rewriter, rewriter), double_steps(rewriter, rewriter))
    if pair not in found:
        raise InvalidOperation("not a reached pair")
    begin, labels = way_to(found, pair)
    return double_of(begin, labels)


def circle(rewriter, pair):
    """Any triple (text, edges, other edges) of rows back to the pair that write something."""
    check_rewriter(rewriter)
    check_pair(rewriter, pair)
    steps = reached_steps(rewriter)
    labels = circle_from(steps, pair)
    if labels is None:
        raise InvalidOperation("not a loud pair")
    text, one, other = double_of(pair, labels)
    return text, one[1], other[1]


def path_delay(rewriter, path, other):
    """The delay of what two paths write that read the same text, without words of ends."""
    check_rewriter(rewriter)
    if not is_trail(rewriter, path) or not is_trail(rewriter, other):
        raise InvalidOperation("not two paths of the rewriter")
    if text_of(path[1]) != text_of(other[1]):
        raise InvalidOperation("the paths do not read the same text")
    return left_over(written_before_end(rewriter, path), written_before_end(rewriter, other))
