"""Kinds of values: each function accepts every value, and tells True or False."""


def is_integer(value):
    """Whether this is an integer; True and False are none."""
    return isinstance(value, int) and not isinstance(value, bool)


def is_below(value, limit):
    """Whether this is an integer from 0 on that is less than the limit."""
    return is_integer(value) and 0 <= value < limit


def is_tuple_of(value, many):
    """Whether this is a tuple with so many parts."""
    return isinstance(value, tuple) and len(value) == many


def is_letter_of(letters, value):
    """Whether this is one of these letters."""
    return isinstance(value, str) and len(value) == 1 and value in letters


def is_state_of(states, value):
    """Whether this is one of these states."""
    return is_integer(value) and value in states


def is_pair_of(states, value):
    """Whether this is a pair of these states, perhaps of equal ones."""
    return is_tuple_of(value, 2) and all([is_state_of(states, state) for state in value])


def is_row_of(states, value):
    """Whether this is an ascending tuple of these states."""
    if not isinstance(value, tuple) or not all([is_state_of(states, state) for state in value]):
        return False
    return list(value) == sorted(set(value))


def is_edge_of(edges, value):
    """Whether this is one of these edges."""
    # True equals 1, so the kinds of the states are asked for first.
    if not is_tuple_of(value, 4) or not is_integer(value[0]) or not is_integer(value[3]):
        return False
    return value in edges
