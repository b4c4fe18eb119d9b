"""Exact numbers: a rational is a tuple (n, d) in lowest terms with d at least 1."""

from liveclaims.errors import BadNumber, DivisionByZero

MOST_PLACES = 9


def is_whole(value):
    # Python counts True and False among the integers; the document does not.
    return isinstance(value, int) and not isinstance(value, bool)


def common_divisor(a, b):
    while b != 0:
        a, b = b, a % b
    return a


def is_rational(value):
    if not isinstance(value, tuple) or len(value) != 2:
        return False
    n, d = value
    if not is_whole(n) or not is_whole(d) or d < 1:
        return False
    return common_divisor(abs(n), d) == 1


def check_rational(value):
    if not is_rational(value):
        raise BadNumber(value)


def lowest_terms(n, d):
    shared = common_divisor(abs(n), abs(d))
    if d < 0:
        # The sign belongs to the numerator.
        shared = -shared
    return (n // shared, d // shared)


def rational(n, d=1):
    if not is_whole(n):
        raise BadNumber(n)
    if not is_whole(d):
        raise BadNumber(d)
    if d == 0:
        raise DivisionByZero()
    return lowest_terms(n, d)


def add(a, b):
    check_rational(a)
    check_rational(b)
    return lowest_terms(a[0] * b[1] + b[0] * a[1], a[1] * b[1])


def subtract(a, b):
    check_rational(a)
    check_rational(b)
    return lowest_terms(a[0] * b[1] - b[0] * a[1], a[1] * b[1])


def multiply(a, b):
    check_rational(a)
    check_rational(b)
    return lowest_terms(a[0] * b[0], a[1] * b[1])


def divide(a, b):
    check_rational(a)
    check_rational(b)
    if b[0] == 0:
        raise DivisionByZero()
    return lowest_terms(a[0] * b[1], a[1] * b[0])


def compare(a, b):
    check_rational(a)
    check_rational(b)
    left = a[0] * b[1]
    right = b[0] * a[1]
    if left < right:
        return -1
    if left > right:
        return 1
    return 0


def check_rounding(value, places):
    check_rational(value)
    if not is_whole(places) or places < 0 or places > MOST_PLACES:
        raise BadNumber(places)


def power_of_ten(places):
    scale = 1
    for place in range(places):
        scale = scale * 10
    return scale


def nearest_units(value, scale):
    """The number of units of 1 / scale that is nearest to value."""
    n, d = value
    # Rounding the size, not the value itself, sends both halves away from zero.
    units = (2 * abs(n) * scale + d) // (2 * d)
    if n < 0:
        return -units
    return units


def rounded(value, *, places=0):
    check_rounding(value, places)
    scale = power_of_ten(places)
    return lowest_terms(nearest_units(value, scale), scale)


def decimal(value, *, places=0):
    check_rounding(value, places)
    scale = power_of_ten(places)
    units = nearest_units(value, scale)
    # The sign is that of the rounded value: a negative value may round to zero.
    sign = "-" if units < 0 else ""
    whole = str(abs(units) // scale)
    if places == 0:
        return sign + whole
    return sign + whole + "." + str(abs(units) % scale).zfill(places)
