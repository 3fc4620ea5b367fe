"""Running a rewriter over texts."""


def edges_by_state(rewriter):
    """A dict from states to the tuples of the edges that leave them."""
    found = {}
    for edge in rewriter.edges:
        found[edge[0]] = found.get(edge[0], ()) + (edge,)
    return found


def edges_by_start(rewriter):
    """A dict from pairs (state, letter) to the tuples of the edges that leave there."""
    found = {}
    for edge in rewriter.edges:
        found[edge[:2]] = found.get(edge[:2], ()) + (edge,)
    return found


def edges_by_end(rewriter):
    """A dict from pairs (letter, state) to the tuples of the edges that lead there."""
    found = {}
    for edge in rewriter.edges:
        key = (edge[1], edge[3])
        found[key] = found.get(key, ()) + (edge,)
    return found


def targets_of(forth, states, letter):
    """The ascending tuple of the states to which edges with a letter lead from some states."""
    return tuple(sorted({edge[3] for state in states for edge in forth.get((state, letter), ())}))


def sources_of(back, states, letter):
    """The ascending tuple of the states from which edges with a letter lead to some states."""
    return tuple(sorted({edge[0] for state in states for edge in back.get((letter, state), ())}))


def has_result(rewriter, text):
    """Whether a text of any length and any letters has a result."""
    forth = edges_by_start(rewriter)
    states = tuple(rewriter.starts)
    for letter in text:
        states = targets_of(forth, states, letter)
    ends = rewriter.ends
    return any([state in ends for state in states])


def lefts_along(rewriter, text):
    """For each place of a text, from the first to the last, LEFT of the rest behind it."""
    back = edges_by_end(rewriter)
    rows = [tuple(rewriter.ends)]
    for letter in text[::-1]:
        rows.append(sources_of(back, rows[-1], letter))
    return rows[::-1]


def some_results(rewriter, text, limit):
    """The results of a text, in any order, or None if there are more than a limit.

    Only states are followed from which the rest leads to an end. So each word that is
    written up to one of them begins another result, and the limit holds for them, too.
    """
    forth = edges_by_start(rewriter)
    lefts = lefts_along(rewriter, text)
    starts = rewriter.starts
    written = {state: {starts[state]: True} for state in starts if state in lefts[0]}
    for at, letter in enumerate(text):
        written = _written_on(forth, written, letter, lefts[at + 1])
        if any([len(words) > limit for words in written.values()]):
            return None
    ends = rewriter.ends
    found = {}
    for state, words in written.items():
        for word in words:
            found[word + ends[state]] = True
    return None if len(found) > limit else list(found)


def one_result(rewriter, text):
    """What some complete path writes that reads a text of any length and any letters, or None."""
    forth = edges_by_start(rewriter)
    lefts = lefts_along(rewriter, text)
    starts = rewriter.starts
    begins = [state for state in starts if state in lefts[0]]
    if not begins:
        return None
    state = begins[0]
    words = [starts[state]]
    for at, letter in enumerate(text):
        onward = [edge for edge in forth[(state, letter)] if edge[3] in lefts[at + 1]]
        words.append(onward[0][2])
        state = onward[0][3]
    return "".join(words) + rewriter.ends[state]


def _written_on(forth, written, letter, lefts):
    """What is written at each of the states `lefts` behind one letter more."""
    found = {}
    for state, words in written.items():
        for edge in forth.get((state, letter), ()):
            if edge[3] in lefts:
                row = found.setdefault(edge[3], {})
                for word in words:
                    row[word + edge[2]] = True
    return found


def sets_met(rewriter, limit):
    """The rest sets in the order in which they are met, and the steps between them.

    The steps are a dict from pairs (letter, index) to indices. As soon as there are
    more sets than the limit, no further ones are looked for.
    """
    back = edges_by_end(rewriter)
    rows = [tuple(rewriter.ends)]
    places = {rows[0]: 0}
    steps = {}
    at = 0
    while at < len(rows) and len(rows) <= limit:
        for letter in rewriter.letters:
            row = sources_of(back, rows[at], letter)
            if row not in places:
                places[row] = len(rows)
                rows.append(row)
            steps[(letter, at)] = places[row]
        at += 1
    return rows, steps
