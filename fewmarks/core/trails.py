"""Paths of a rewriter: pairs of a start and a tuple of edges."""
from fewmarks.core.kinds import is_edge_of, is_state_of, is_tuple_of


def is_trail(rewriter, value):
    """Whether the value is a path of the rewriter."""
    if not is_tuple_of(value, 2) or not isinstance(value[1], tuple):
        return False
    state, row = value
    if not is_state_of(rewriter.starts, state):
        return False
    edges = rewriter.edges
    for edge in row:
        if not is_edge_of(edges, edge) or edge[0] != state:
            return False
        state = edge[3]
    return True


def last_state(path):
    """The state to which a path leads."""
    state, edges = path
    return edges[-1][3] if edges else state


def text_of(edges):
    """The letters that a row of edges reads."""
    return "".join([edge[1] for edge in edges])


def written_before_end(rewriter, path):
    """What a path writes without the word of an end."""
    state, edges = path
    return rewriter.starts[state] + "".join([edge[2] for edge in edges])


def written_by(rewriter, path):
    """What a path writes, with the word of the end if it is complete."""
    return written_before_end(rewriter, path) + rewriter.ends.get(last_state(path), "")


def is_complete(rewriter, path):
    """Whether a path leads to an end."""
    return last_state(path) in rewriter.ends
