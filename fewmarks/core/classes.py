"""Which nodes do the same from there on."""


def same_classes(kinds, onward):
    """The fewest classes of nodes that do the same: a dict from nodes to numbers from 0 on.

    Nodes of one class have equal kinds, and the tuples `onward` of the nodes to which
    they lead have, place by place, nodes of equal classes. The first nodes have the
    smallest numbers.
    """
    found = _numbered(kinds)
    while True:
        shown = {node: (found[node], tuple([found[after] for after in onward[node]])) for node in kinds}
        finer = _numbered(shown)
        if finer == found:
            return found
        found = finer


def _numbered(kinds):
    """For each node the number of its kind: 0 for the first one, and so on."""
    numbers = {}
    found = {}
    for node, kind in kinds.items():
        if kind not in numbers:
            numbers[kind] = len(numbers)
        found[node] = numbers[kind]
    return found
