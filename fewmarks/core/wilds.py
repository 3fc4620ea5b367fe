"""Where what two paths have written comes apart without a bound.

A *lasso* is (pair of starts, row of steps from there to a pair, row of steps from that
pair back to it that changes the delay). `steps` are those of all reached pairs, and
`leads` tells to which pairs each of them leads.
"""
from fewmarks.base.words import left_over
from fewmarks.core.doubles import circle_from, loud_among, start_pairs
from fewmarks.core.graphs import all_leads, first_ways, way_to
from fewmarks.core.singles import led_by_step


def lassos(rewriter, steps):
    """A dict of lassos; the wild pairs are those to which its keys, one or another, lead."""
    leads = all_leads(steps)
    parts = _loud_parts(steps, leads)
    found = first_ways(start_pairs(rewriter, rewriter), steps)
    made = {}
    for part in parts:
        ring = _uneven_ring(steps, part)
        if ring is not None:
            begin, before = way_to(found, part[0])
            made[part[0]] = (begin, before, ring)
    # Behind an uneven ring there is no end to the delays, and each loud pair is wild.
    behind = [pair for pair in steps if any([pair in leads[root] for root in made])]
    roots = [part[0] for part in parts if part[0] not in behind]
    within = [pair for pair in steps if any([root in leads[pair] for root in roots])]
    _, clashes = _followed_delays(rewriter, steps, within)
    for root in roots:
        for pair in clashes:
            if root in leads[pair] and root not in made:
                made[root] = _lasso_behind(rewriter, steps, clashes[pair], root)
    return made


def wild_among(steps, roots):
    """The ascending list of the pairs to which some pairs lead."""
    return sorted(list(first_ways(roots, steps)))


def closed_delays(rewriter, steps, within):
    """A dict from some pairs to ascending tuples of delays, closed under steps between them.

    There must be no fork at a loud pair to which one of these pairs leads.
    """
    delays, _ = _followed_delays(rewriter, steps, within)
    rows = {pair: [] for pair in within}
    for (pair, _), delay in delays.items():
        rows[pair].append(delay)
    return {pair: tuple(sorted(rows[pair])) for pair in within}


def _loud_parts(steps, leads):
    """The sets of loud pairs that lead to one another, as ascending lists."""
    parts = []
    for pair in loud_among(steps, leads):
        part = [after for after in steps if after in leads[pair] and pair in leads[after]]
        if part[0] == pair:
            parts.append(part)
    return parts


def _gain(labels):
    """By how many letters more the first path writes along a row of steps."""
    return sum([len(edge[2]) - len(other[2]) for edge, other in labels])


def _uneven_ring(steps, part):
    """A row of steps from the first pair of a part back to it that has a gain, or None."""
    inner = {pair: tuple([step for step in steps[pair] if step[1] in part]) for pair in part}
    found = first_ways([part[0]], inner)
    ways = {pair: way_to(found, pair)[1] for pair in part}
    gains = {pair: _gain(ways[pair]) for pair in part}
    for pair in part:
        for label, after in inner[pair]:
            if gains[pair] + _gain([label]) != gains[after]:
                # The same way back stands behind both, so one of the two has a gain.
                _, back = way_to(first_ways([after], inner), part[0])
                rings = [ways[pair] + (label,) + back, ways[after] + back]
                return [ring for ring in rings if _gain(ring) != 0][0]
    return None


def _followed_delays(rewriter, steps, within):
    """One delay of each pair for each number of letters that one word is ahead.

    Delays are followed along steps between some pairs, which all lead to loud ones. The
    second result is a dict from the pairs with two delays for one number of letters to
    two such ways (pair of starts, row of steps). No circle behind them that writes
    something keeps both, so delays need not be followed any more.
    """
    starts = rewriter.starts
    inside = {pair: True for pair in within}
    waiting = [(None, pair, left_over(starts[pair[0]], starts[pair[1]]))
               for pair in start_pairs(rewriter, rewriter) if pair in inside]
    found = {}
    delays = {}
    clashes = {}
    at = 0
    while at < len(waiting):
        way, pair, delay = waiting[at]
        at += 1
        node = (pair, len(delay[0]) - len(delay[1]))
        if pair in clashes or delays.get(node) == delay:
            continue
        if node in delays:
            clashes[pair] = (_way_of(found, found[node], pair), _way_of(found, way, pair))
        else:
            found[node] = way
            delays[node] = delay
            for label, after in steps[pair]:
                if after in inside:
                    waiting.append(((node, label), after, led_by_step(delay, label)))
    return delays, clashes


def _way_of(found, way, pair):
    """The pair of starts and the row of steps of a way to a pair."""
    if way is None:
        return pair, ()
    node, label = way
    (begin, _), labels = way_to(found, node)
    return begin, labels + (label,)


def _lasso_behind(rewriter, steps, ways, root):
    """A lasso at a loud pair, behind one of two ways to a pair that leads to it."""
    ring = circle_from(steps, root)
    made = []
    for begin, labels in ways:
        _, onward = way_to(first_ways([_pair_behind(begin, labels)], steps), root)
        before = labels + onward
        if _delay_behind(rewriter, begin, before) != _delay_behind(rewriter, begin, before + ring):
            made.append((begin, before, ring))
    return made[0]


def _pair_behind(begin, labels):
    """The pair to which a row of steps leads."""
    return (labels[-1][0][3], labels[-1][1][3]) if labels else begin


def _delay_behind(rewriter, begin, labels):
    """The delay behind a row of steps from a pair of starts."""
    starts = rewriter.starts
    words = [edge[2] for edge, _ in labels]
    others = [other[2] for _, other in labels]
    return left_over(starts[begin[0]] + "".join(words), starts[begin[1]] + "".join(others))
