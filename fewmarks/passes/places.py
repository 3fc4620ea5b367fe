"""Writing in place: each letter gets its word at once, by what is known of the text ahead."""
from fewmarks.base.rewriters import check_rewriter
from fewmarks.base.words import is_word
from fewmarks.core.checks import check_text
from fewmarks.core.doubles import double_of, reached_steps, start_pairs
from fewmarks.core.graphs import first_ways, way_to
from fewmarks.core.kinds import is_below, is_integer, is_pair_of, is_tuple_of
from fewmarks.core.runs import edges_by_start, lefts_along
from fewmarks.core.singles import live_steps
from fewmarks.core.spreads import Spreads
from fewmarks.core.tables import pairs_before
from fewmarks.core.trails import is_trail, last_state, text_of
from fewmarks.core.wilds import wild_among
from fewmarks.errors import InvalidOperation
from fewmarks.machines.early import all_spreads
from fewmarks.machines.machines import fewest
from fewmarks.machines.marks import classes_apart, marks_along
from fewmarks.passes.ahead import ahead_of
from fewmarks.rests.domains import are_domain_pairs, domain_paper_of, is_parting_text
from fewmarks.rests.rests import checked_sets


def is_placed(rewriter):
    """Whether starts and ends write nothing, and no text has two placed results."""
    check_rewriter(rewriter)
    words = list(rewriter.starts.values()) + list(rewriter.ends.values())
    if any([word != "" for word in words]):
        return False
    steps = live_steps(rewriter, rewriter)
    return not any([_is_unlike(label) for pair in steps for label, _ in steps[pair]])


def placed(rewriter, text):
    """The tuple of the words of a complete path that reads the text, one for each letter, or None."""
    check_rewriter(rewriter)
    check_text(rewriter, text)
    _check_placed(rewriter)
    lefts = lefts_along(rewriter, text)
    states = [state for state in rewriter.starts if state in lefts[0]]
    if not states:
        return None
    forth = edges_by_start(rewriter)
    words = []
    state = states[0]
    for at, letter in enumerate(text):
        onward = [edge for edge in forth[(state, letter)] if edge[3] in lefts[at + 1]]
        words.append(onward[0][2])
        state = onward[0][3]
    return tuple(words)


def place_paper(rewriter, rest, other):
    """Any place paper: closed tables for rests that are alike in place, otherwise a text or a place."""
    _check_rests(rewriter, rest, other)
    told = domain_paper_of(rewriter, rest, other)
    if told[0] == "text":
        return "apart", told
    steps = reached_steps(rewriter)
    reached = _pairs_to_rests(rewriter, steps, rest, other)
    unlike = _unlike_steps(steps, reached)
    if unlike:
        return "apart", _place_of(rewriter, steps, unlike[0], _goals(rewriter, rest, other))
    return "alike", told[1], tuple(reached)


def is_place_paper(rewriter, rest, other, value):
    """Whether the value is a place paper of the two rests."""
    _check_rests(rewriter, rest, other)
    if is_tuple_of(value, 3) and value[0] == "alike":
        return are_domain_pairs(rewriter, rest, other, value[1]) and _are_reached(rewriter, rest, other, value[2])
    if not is_tuple_of(value, 2) or value[0] != "apart":
        return False
    shown = value[1]
    if is_tuple_of(shown, 2) and shown[0] == "text":
        return is_parting_text(rewriter, rest, other, shown[1])
    return is_tuple_of(shown, 5) and shown[0] == "place" and _is_place(rewriter, rest, other, shown)


def place_marks(rewriter):
    """The least marks in place."""
    check_rewriter(rewriter)
    return _marks_in_place(rewriter)


def place_machine(rewriter):
    """The two-pass machine that writes the word of each letter with this letter, with these marks."""
    check_rewriter(rewriter)
    marks = _marks_in_place(rewriter)
    begins, steps, nodes = all_spreads(Spreads(rewriter.silent(), marks), marks)
    forth = edges_by_start(rewriter)
    steps = {triple: (_word_of_step(forth, triple, after), after) for triple, (_, after) in steps.items()}
    return fewest(marks, nodes, begins, steps, {node: "" for node in nodes if node[0] == 0})


def letters_ahead(rewriter):
    """How many letters ahead tell the mark in place, or None if no number of them does."""
    paper = ahead_paper(rewriter)
    return paper[1] if paper[0] == "ahead" else None


def ahead_paper(rewriter):
    """Any ahead paper of the rewriter."""
    check_rewriter(rewriter)
    return ahead_of(_marks_in_place(rewriter))


def is_ahead_paper(rewriter, value):
    """Whether the value is an ahead paper of the rewriter."""
    check_rewriter(rewriter)
    marks = _marks_in_place(rewriter)
    if not is_tuple_of(value, 4):
        return False
    kind, shown, one, other = value
    if kind == "ahead" and is_integer(shown) and one is None and other is None:
        return shown == 0 and len(marks) == 1
    if not _is_rest(marks, one) or not _is_rest(marks, other) or _mark(marks, one) == _mark(marks, other):
        return False
    if kind == "ahead":
        return is_integer(shown) and ahead_of(marks)[:2] == (kind, shown) and _agree(one, other, shown - 1)
    return (kind == "never" and _is_rest(marks, shown) and shown != ""
            and _mark(marks, shown + one) == _mark(marks, one) and _mark(marks, shown + other) == _mark(marks, other))


def _check_placed(rewriter):
    if not is_placed(rewriter):
        raise InvalidOperation("not a placed rewriter")


def _check_rests(rewriter, rest, other):
    check_rewriter(rewriter)
    check_text(rewriter, rest)
    check_text(rewriter, other)
    _check_placed(rewriter)
    checked_sets(rewriter)


def _is_unlike(label):
    """Whether both edges of a step write unlike words."""
    return label[0][2] != label[1][2]


def _unlike_steps(steps, pairs):
    """The steps with unlike words between some pairs, as (pair, label, pair)."""
    within = {pair: True for pair in pairs}
    return [(pair, label, after) for pair in pairs for label, after in steps[pair]
            if after in within and _is_unlike(label)]


def _goals(rewriter, rest, other):
    """The pairs from which both rests lead to ends."""
    return [(state, beside) for state in lefts_along(rewriter, rest)[0] for beside in lefts_along(rewriter, other)[0]]


def _pairs_to_rests(rewriter, steps, rest, other):
    """The reached pairs that lead to one from which both rests lead to ends."""
    return pairs_before(steps, _goals(rewriter, rest, other))


def _place_of(rewriter, steps, unlike, goals):
    """The place of a step with unlike words: ("place", text, index, path, other)."""
    pair, label, after = unlike
    begin, before = way_to(first_ways(start_pairs(rewriter, rewriter), steps), pair)
    found = first_ways([after], steps)
    _, onward = way_to(found, [goal for goal in goals if goal in found][0])
    text, path, against = double_of(begin, before + (label,) + onward)
    return "place", text, len(before), path, against


def _are_reached(rewriter, rest, other, value):
    """Whether these are the reached pairs of a place paper, and no step between them has unlike words."""
    states = rewriter.states
    if not isinstance(value, tuple) or not all([is_pair_of(states, pair) for pair in value]):
        return False
    steps = reached_steps(rewriter)
    return list(value) == _pairs_to_rests(rewriter, steps, rest, other) and not _unlike_steps(steps, value)


def _is_place(rewriter, rest, other, value):
    """Whether two paths that read a text write unlike words for the letter with this index."""
    _, text, index, path, against = value
    if not is_word(text) or not is_below(index, len(text)):
        return False
    for trail, last in ((path, rest), (against, other)):
        if not is_trail(rewriter, trail) or text_of(trail[1]) != text:
            return False
        if last_state(trail) not in lefts_along(rewriter, last)[0]:
            return False
    return path[1][index][2] != against[1][index][2]


def _marks_in_place(rewriter):
    """The least marks in place; refuses what is not placed, or has too many rest sets."""
    _check_placed(rewriter)
    rows, sets = checked_sets(rewriter)
    steps = reached_steps(rewriter)
    unlike = [after for _, _, after in _unlike_steps(steps, list(steps))]
    marks, _ = classes_apart(rewriter, rows, sets, wild_among(steps, unlike))
    return marks


def _word_of_step(forth, triple, after):
    """The word of a letter between two pairs of a mark and a spread; all paths write the same there."""
    (_, found), letter, _ = triple
    goals = [state for state, _ in after[1]]
    return [edge[2] for state, _ in found for edge in forth.get((state, letter), ()) if edge[3] in goals][0]


def _is_rest(marks, value):
    """Whether this is a rest of any length."""
    return is_word(value) and value.strip(marks.letters) == ""


def _agree(one, other, many):
    """Whether two unlike rests have so many letters or more, and begin with the same ones."""
    return min(len(one), len(other)) >= many and one[:many] == other[:many]


def _mark(marks, rest):
    """The mark of a rest of any length."""
    return marks_along(marks.steps, rest)[0]
