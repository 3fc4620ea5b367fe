"""What a rewriter has written at its states, and what is known of all that follows, ahead of marks."""
from fewmarks.base.words import left_over, shared_beginning
from fewmarks.core.runs import edges_by_end, edges_by_start


class Spreads:
    """The spreads of a single rewriter and of marks that serve it; each one is a tuple of (state, word).

    Where a pair (word, spread) is returned, the word is what is written before all that stands in the spread;
    None stands for it where no state is. One mark for all rests gives wide spreads.
    """

    def __init__(self, rewriter, marks):
        self._begins = rewriter.starts
        self._forth = edges_by_start(rewriter)
        self._closing = rewriter.ends
        self._aheads = beginnings_ahead(rewriter, marks)

    def at_begin(self, mark):
        """The spread of the text "" ahead of a good mark."""
        return _cut({state: word for state, word in self._begins.items() if (state, mark) in self._aheads})

    def behind(self, spread, letter, mark):
        """The spread behind a letter more, ahead of the mark behind it."""
        words = {}
        for state, word in spread:
            for edge in self._forth.get((state, letter), ()):
                if (edge[3], mark) in self._aheads:
                    words[edge[3]] = word + edge[2]
        return _cut(words)

    def sure(self, mark, spread):
        """What all that is to be written from the spread, ahead of all rests of the mark, begins with."""
        return shared_beginning([word + self._aheads[(state, mark)] for state, word in spread])

    def at_end(self, spread):
        """What is to be written from the spread if nothing follows, or None if no state is an end."""
        words = [word + self._closing[state] for state, word in spread if state in self._closing]
        return words[0] if words else None


def beginnings_ahead(rewriter, marks):
    """What all that is written from a state begins with, whatever rest of a mark follows.

    This is a dict from just those pairs (state, mark) where some rest of the mark leads
    from the state to ends.
    """
    closing = rewriter.ends
    found = {(state, 0): closing[state] for state in closing}
    before = {}
    back, steps = edges_by_end(rewriter), marks.steps
    row = list(found)
    at = 0
    while at < len(row):
        now = row[at]
        state, mark = now
        before[now] = [((edge[0], steps[(letter, mark)]), edge[2])
                       for letter in rewriter.letters for edge in back.get((letter, state), ())]
        for node, word in before[now]:
            if node not in found:
                found[node] = word + found[now]
                row.append(node)
        at += 1
    return _shortened(found, before)


def _shortened(words, before):
    """The words cut until each of them, behind each word that leads to it, begins with the word there.

    Here one of all that is written from each node is taken first. `before` tells from
    which nodes, with which words, one comes to a node.
    """
    found = {node: words[node] for node in words}
    row = list(words)
    at = 0
    while at < len(row):
        now = row[at]
        known = found[now]
        for node, word in before[now]:
            over, _ = left_over(found[node], word + known)
            if over != "":
                found[node] = found[node][:len(found[node]) - len(over)]
                row.append(node)
        at += 1
    return found


def _cut(words):
    """The longest common beginning of words at states, and the spread beyond it; None without a state."""
    if not words:
        return None
    common = shared_beginning(list(words.values()))
    return common, tuple([(state, words[state][len(common):]) for state in sorted(list(words))])
