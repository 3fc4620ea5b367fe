"""Going from node to node: states, pairs of states, or whatever else can be a key.

All functions here change only what they make themselves, since operators use them.
"""


def nodes_from(begin, moves):
    """All nodes to which rows of moves (node, node) go from some nodes, and these, as a dict."""
    onward = {}
    for node, after in sorted(set(moves)):
        onward[node] = onward.get(node, ()) + (after,)
    found = {}
    waiting = list(begin)
    while waiting:
        node = waiting.pop()
        if node not in found:
            found[node] = True
            waiting.extend(onward.get(node, ()))
    return found


def nodes_between(begin, moves, goals):
    """The ascending list of the nodes on rows of moves from some nodes to some goals."""
    reached = nodes_from(begin, moves)
    useful = nodes_from(goals, [(after, node) for node, after in moves])
    return sorted([node for node in reached if node in useful])


def first_ways(begin, steps):
    """All nodes to which steps go, nearest ones first, each with its first way.

    `steps` is a dict from nodes to tuples of pairs (label, node). The result is a dict
    from nodes to None at the beginning, else to pairs (node before, label).
    """
    found = {}
    row = []
    for node in begin:
        if node not in found:
            found[node] = None
            row.append(node)
    at = 0
    while at < len(row):
        node = row[at]
        onward = steps.get(node, ())
        for label, after in onward:
            if after not in found:
                found[after] = (node, label)
                row.append(after)
        at += 1
    return found


def all_leads(steps):
    """A dict from all nodes to dicts of the nodes to which they lead, themselves included.

    `steps` is a dict as above in which all nodes stand.
    """
    onward = {node: sorted({after for _, after in steps[node]}) for node in steps}
    return {node: _led_to(onward, node) for node in steps}


def way_to(found, node):
    """The node at which the first way to a node begins, and the tuple of its labels."""
    labels = []
    while found[node] is not None:
        node, label = found[node]
        labels.append(label)
    return node, tuple(labels[::-1])


def _led_to(onward, begin):
    """A dict of the nodes to which one leads, itself included."""
    found = {begin: True}
    waiting = [begin]
    while waiting:
        node = waiting.pop()
        for after in onward[node]:
            if after not in found:
                found[after] = True
                waiting.append(after)
    return found
