"""Equality that keeps True and 1 apart, as Python's own does not."""

from liveclaims.exact import is_whole


def is_same(one, other):
    """Whether two things are equal, where True is not equal to 1, nor False to 0, also inside of tuples."""
    if isinstance(one, tuple) and isinstance(other, tuple):
        return len(one) == len(other) and all([is_same(a, b) for a, b in zip(one, other)])
    if isinstance(one, bool) != isinstance(other, bool) or is_whole(one) != is_whole(other):
        return False
    return one == other
