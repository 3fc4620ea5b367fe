"""Second ways, slow and plain, of telling what the package tells about rests, forks and marks."""
from helpers import all_texts


def left_over_too(word, other):
    """The delay of two words."""
    while word and other and word[0] == other[0]:
        word, other = word[1:], other[1:]
    return word, other


def runs_from(rewriter, state, text):
    """All pairs (state, word) to which the text leads from a state."""
    rows = {(state, "")}
    for letter in text:
        rows = {(edge[3], word + edge[2]) for at, word in rows for edge in rewriter.edges if edge[:2] == (at, letter)}
    return rows


def words_from(rewriter, state, rest):
    """All words that a rest writes from a state to an end, end words included."""
    return {word + rewriter.ends[at] for at, word in runs_from(rewriter, state, rest) if at in rewriter.ends}


def left_by_runs(rewriter, rest):
    return tuple(state for state in rewriter.states if words_from(rewriter, state, rest))


def results_too(rewriter, text):
    """The set of the results of a text."""
    return {word + more for state, word in rewriter.starts.items() for more in words_from(rewriter, state, text)}


def has_result_too(rewriter, text):
    """Whether a text has a result."""
    states = set(rewriter.starts)
    for letter in text:
        states = {edge[3] for edge in rewriter.edges if edge[0] in states and edge[1] == letter}
    return bool(states & set(rewriter.ends))


def result_too(rewriter, text):
    """The result of a text of a single rewriter, or None; texts may be long.

    What is written at states from which the text goes on to no end may be any such word.
    """
    rows = dict(rewriter.starts)
    for letter in text:
        rows = {edge[3]: rows[edge[0]] + edge[2] for edge in rewriter.edges if edge[0] in rows and edge[1] == letter}
    found = {word + rewriter.ends[state] for state, word in rows.items() if state in rewriter.ends}
    return found.pop() if found else None


def sources_too(rewriter, states, letter):
    return tuple(sorted({edge[0] for edge in rewriter.edges if edge[1] == letter and edge[3] in states}))


def sets_from_left(rewriter):
    """A dict from all sets of states to which texts lead to the first such texts, in order."""
    first = frozenset(rewriter.starts)
    found = {first: ""}
    row = [first]
    for states in row:
        for letter in rewriter.letters:
            after = frozenset(edge[3] for edge in rewriter.edges if edge[0] in states and edge[1] == letter)
            if after not in found:
                found[after] = found[states] + letter
                row.append(after)
    return found


def parting_texts(rewriter, first, second):
    """Texts that lead to a state of just one of two tuples, one for each set to which they lead."""
    return [text for states, text in sets_from_left(rewriter).items() if bool(states & set(first)) != bool(states & set(second))]


def reached_steps_too(rewriter):
    """A dict from the reached pairs to lists of (letter, edge, other edge, pair)."""
    row = [(p, q) for p in rewriter.starts for q in rewriter.starts]
    found = {}
    for pair in row:
        if pair not in found:
            found[pair] = [(one[1], one, two, (one[3], two[3])) for one in rewriter.edges for two in rewriter.edges
                           if one[0] == pair[0] and two[0] == pair[1] and one[1] == two[1]]
            row.extend(after for _, _, _, after in found[pair])
    return found


def led_to_too(steps, begin):
    """The set of all to which some pairs lead, themselves included."""
    found = set(begin)
    row = list(begin)
    for pair in row:
        for step in steps[pair]:
            if step[3] not in found:
                found.add(step[3])
                row.append(step[3])
    return found


def loud_too(rewriter):
    """The set of the loud pairs: those with a step that writes, from where the pair can be met again."""
    steps = reached_steps_too(rewriter)
    leads = {pair: led_to_too(steps, [pair]) for pair in steps}
    return {pair for pair in steps if any(
        (one[2] or two[2]) and pair in leads[after] for inner in leads[pair] for _, one, two, after in steps[inner])}


def delays_too(rewriter, most):
    """A dict from the reached pairs to the sets of their delays, of which no more than so many are followed."""
    steps = reached_steps_too(rewriter)
    found = {pair: set() for pair in steps}
    row = [((p, q), left_over_too(rewriter.starts[p], rewriter.starts[q])) for p in rewriter.starts for q in rewriter.starts]
    for pair, delay in row:
        if delay not in found[pair] and len(found[pair]) < most:
            found[pair].add(delay)
            row.extend((after, left_over_too(delay[0] + one[2], delay[1] + two[2])) for _, one, two, after in steps[pair])
    return found


def wild_too(rewriter, most=300):
    """The set of the wild pairs, where no other pair has so many delays."""
    found = delays_too(rewriter, most)
    return led_to_too(reached_steps_too(rewriter), [pair for pair in found if len(found[pair]) == most])


def are_alike_too(rewriter, wild, first, second):
    """Whether rests with these rest sets are alike."""
    return (not parting_texts(rewriter, first, second)
            and not any((p, q) in wild for p in first for q in second))


def rest_sets_too(rewriter):
    """The rest sets as they are met."""
    rows = [tuple(rewriter.ends)]
    for row in rows:
        for letter in rewriter.letters:
            onward = sources_too(rewriter, row, letter)
            if onward not in rows:
                rows.append(onward)
    return rows


def is_paths_fork(rewriter, first, second, value):
    """Whether the value, a tuple of three texts and two paths, is a fork, told as [8.1] tells it."""
    one, two, three, path, other = value
    seen = []
    for start, edges in (path, other):
        if start not in rewriter.starts or "".join(edge[1] for edge in edges) != one + two + three:
            return False
        states, words = [start], [rewriter.starts[start]]
        for edge in edges:
            if edge not in rewriter.edges or edge[0] != states[-1]:
                return False
            states.append(edge[3])
            words.append(words[-1] + edge[2])
        if states[len(one)] != states[len(one) + len(two)]:
            return False
        seen.append((states[-1], words))
    (last, words), (other_last, other_words) = seen
    at, then = len(one), len(one) + len(two)
    return (two != "" and last in first and other_last in second
            and left_over_too(words[at], other_words[at]) != left_over_too(words[then], other_words[then]))


def short_rests(rewriter, many=7):
    """Some short rests of a rewriter, in order."""
    return all_texts(rewriter.letters, 3)[:many]
