"""What rules see of a text: which of several patterns the texts end with.

What stands behind a letter is seen in the same way: as a text that is read backwards, by patterns that are
turned round.
"""
from fewmarks.books.patterns import first_trace, is_matched, next_trace
from fewmarks.core.classes import same_classes
from fewmarks.core.graphs import way_to

# A pattern with three items has no more traces than this.
_ALL_TRACES = 16


def matched_along(patterns, text):
    """For each place of a text, from the first to the last, which patterns the text up to it ends with."""
    row = [first_trace(pattern) for pattern in patterns]
    rows = [row]
    for letter in text:
        row = [next_trace(pattern, trace, letter) for pattern, trace in zip(patterns, row)]
        rows.append(row)
    return [[is_matched(pattern, trace) for pattern, trace in zip(patterns, traces)] for traces in rows]


def traces_met(letters, patterns, limit):
    """All tuples of traces that texts have, first that of the text "", and the steps between them.

    The steps are a dict from pairs (letter, index) to indices. As soon as there are more than the limit, no
    further ones are looked for.
    """
    rows = [tuple([first_trace(pattern) for pattern in patterns])]
    places = {rows[0]: 0}
    steps = {}
    at = 0
    while at < len(rows) and len(rows) <= limit:
        for letter in letters:
            row = tuple([next_trace(pattern, trace, letter) for pattern, trace in zip(patterns, rows[at])])
            if row not in places:
                places[row] = len(rows)
                rows.append(row)
            steps[(letter, at)] = places[row]
        at += 1
    return rows, steps


def matches_met(letters, patterns):
    """A generator of all tuples that tell which patterns texts end with, each with the first text that tells so."""
    tables = [_least_table(letters, pattern) for pattern in patterns]
    begin = tuple([0 for _ in patterns])
    found = {begin: None}
    row = [begin]
    told = {}
    at = 0
    while at < len(row):
        node = row[at]
        flags = tuple([matched[place] for place, (_, matched) in zip(node, tables)])
        if flags not in told:
            told[flags] = True
            yield (flags, "".join(way_to(found, node)[1]))
        for letter in letters:
            after = tuple([steps[(letter, place)] for place, (steps, _) in zip(node, tables)])
            if after not in found:
                found[after] = (node, letter)
                row.append(after)
        at += 1


def _least_table(letters, pattern):
    """The fewest places that tell whether texts end with a pattern: steps between them, and where it is so.

    The text "" leads to the place 0.
    """
    rows, steps = traces_met(letters, (pattern,), _ALL_TRACES)
    kinds = {at: is_matched(pattern, row[0]) for at, row in enumerate(rows)}
    places = same_classes(kinds, {at: [steps[(letter, at)] for letter in letters] for at in kinds})
    return ({(letter, places[at]): places[after] for (letter, at), after in steps.items()},
            {places[at]: kinds[at] for at in kinds})
