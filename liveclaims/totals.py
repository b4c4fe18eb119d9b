"""The functions over a column's values. They are exact and know no limit."""

from liveclaims.exact import common_divisor, lowest_terms
from liveclaims.registers import LIMIT

# All but count are of number columns alone.
FUNCTIONS = ("count", "sum", "mean", "median", "least", "greatest")


def total(function, values):
    """The function over the values that are not missing: a rational, or None if it is missing."""
    present = [value for value in values if value is not None]
    if function == "count":
        return (len(present), 1)
    if function == "sum":
        return sum_of(present)
    if len(present) == 0:
        return None
    work = OF_SOME[function]
    return work(present)


def by_size(value):
    """An integer by which values can be ordered by size; their denominators are within the limit."""
    # Two unlike values differ by at least 1 / (LIMIT * LIMIT), so their integers are unlike too.
    return value[0] * LIMIT * LIMIT // value[1]


def common_scale(values):
    """The least common multiple of the denominators."""
    scale = 1
    for value in values:
        scale = scale * (value[1] // common_divisor(scale, value[1]))
    return scale


def scaled(value, scale):
    """The value times a multiple of its denominator: an integer."""
    return value[0] * (scale // value[1])


def sum_of(values):
    # Over one denominator, and brought to lowest terms once: long sums of unlike denominators stay fast.
    scale = common_scale(values)
    return lowest_terms(sum([scaled(value, scale) for value in values]), scale)


def mean_of(values):
    n, d = sum_of(values)
    return lowest_terms(n, d * len(values))


def median_of(values):
    ordered = sorted(values, key=by_size)
    half = len(ordered) // 2
    if len(ordered) % 2 == 1:
        return ordered[half]
    return mean_of(ordered[half - 1:half + 1])


def least_of(values):
    return min(values, key=by_size)


def greatest_of(values):
    return max(values, key=by_size)


OF_SOME = {"mean": mean_of, "median": median_of, "least": least_of, "greatest": greatest_of}
