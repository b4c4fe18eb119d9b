"""Promise [6]: exact numbers."""

import unittest
from fractions import Fraction
from math import gcd

from liveclaims.errors import BadNumber, DivisionByZero
from liveclaims.exact import add, compare, decimal, divide, is_rational, multiply, rational, rounded, subtract
from liveclaims.registers import Register

BIG = 10 ** 40
LARGE_PARTS = (1, 2, 3, 10 ** 20, 6 ** 40, BIG - 1, BIG, BIG + 1, 3 * 10 ** 39)
NOT_INTEGERS = (True, False, None, 1.0, 0.0, float("nan"), float("inf"), 2j, "1", "", b"1", (1,), (1, 1), (), [], [1],
                {}, {1: 1}, {1}, frozenset([1]), range(3), len, int, object())
NOT_RATIONALS = (
    # of every other kind
    None, True, False, 0, 1, -1, 0.5, float("nan"), 1j, "", "1/2", "12", b"12", [], [1, 2], {}, {1: 2, 3: 4}, {1, 2},
    frozenset([1, 2]), range(1, 3), len, int, object(),
    # of another length
    (), (1,), (0,), (1, 2, 3), (1, 1, 1), (1, 2, None), ((1, 2),),
    # not in lowest terms
    (2, 4), (-2, 4), (2, 2), (-3, 3), (0, 2), (0, BIG), (6, 9), (BIG, BIG), (2 * BIG, 10), (BIG, 2),
    # a denominator of zero or below
    (1, 0), (0, 0), (-1, 0), (1, -1), (0, -1), (1, -2), (-1, -2), (-BIG, -1),
    # True or False in a place
    (True, 1), (False, 1), (1, True), (0, True), (True, True), (True, 2), (1, False), (False, True),
    # other things in a place
    (1.0, 1), (1, 1.0), (0.5, 1), (None, 1), (1, None), ("1", 1), (1, "1"), ("1", "1"), ([1], 1), (1, [1]),
    ((1, 1), 1), (1, (1, 1)), (b"1", 1), ({}, 1), (1, {}), (1j, 1), (float("nan"), 1),
    Register("r", (("a", "number"),)), (Register("r", (("a", "number"),)), 1),
)
WRONG_PLACES = (-1, 10, 11, BIG, -BIG, True, False, None, 1.0, 2.5, "1", "", (1, 1), (0, 1), [], [1], {}, b"1")


def pair(number):
    return (number.numerator, number.denominator)


def small_numbers():
    return [(n, d) for n in range(-7, 8) for d in range(1, 7) if gcd(n, d) == 1]


def large_numbers():
    found = [(0, 1)]
    for n in LARGE_PARTS:
        for d in LARGE_PARTS:
            if gcd(n, d) == 1:
                found.extend([(n, d), (-n, d)])
    return found


def units_of(number, places):
    """How many units of the last place the rounded number has; halves go away from zero."""
    scaled = abs(Fraction(*number)) * 10 ** places
    whole = scaled.numerator // scaled.denominator
    if scaled - whole >= Fraction(1, 2):
        whole += 1
    return whole if number[0] >= 0 else -whole


def text_of(number, places):
    units = units_of(number, places)
    digits = str(abs(units)).rjust(places + 1, "0")
    cut = len(digits) - places
    return ("-" if units < 0 else "") + digits[:cut] + ("." + digits[cut:] if places else "")


class ExactCase(unittest.TestCase):
    def refused(self, error, call, *given, **named):
        with self.assertRaises(error) as caught:
            call(*given, **named)
        self.assertIs(type(caught.exception), error)
        return caught.exception

    def same(self, found, expected):
        """Equal, and of the very kinds: True is no integer here and a list is no tuple."""
        self.assertEqual(found, expected)
        self.assertIs(type(found), type(expected))
        if isinstance(expected, tuple):
            self.assertEqual([type(part) for part in found], [int, int])


class TestIsRational(ExactCase):
    def test_rationals(self):
        for value in small_numbers() + large_numbers():
            self.assertIs(is_rational(value), True, value)
        self.assertIs(is_rational(value=(0, 1)), True)

    def test_all_else(self):
        for value in NOT_RATIONALS:
            self.assertIs(is_rational(value), False, repr(value))

    def test_lowest_terms_for_all_small_parts(self):
        for n in range(-13, 14):
            for d in range(-3, 14):
                self.assertIs(is_rational((n, d)), d >= 1 and gcd(n, d) == 1, (n, d))

    def test_example(self):
        self.assertIs(is_rational((2, 4)), False)

    def test_a_list_is_left_as_it_was(self):
        value = [1, 2]
        is_rational(value)
        self.assertEqual(value, [1, 2])


class TestRational(ExactCase):
    def test_example(self):
        self.same(rational(6, -4), (-3, 2))

    def test_small_parts(self):
        for n in range(-13, 14):
            for d in range(-13, 14):
                if d != 0:
                    self.same(rational(n, d), pair(Fraction(n, d)))

    def test_large_parts(self):
        for n in LARGE_PARTS + (0,):
            for d in LARGE_PARTS:
                for sign in (1, -1):
                    self.same(rational(sign * n, d), pair(Fraction(sign * n, d)))
                    self.same(rational(n, sign * d), pair(Fraction(n, sign * d)))

    def test_zero(self):
        for d in (1, -1, 2, -2, 7, BIG, -BIG):
            self.same(rational(0, d), (0, 1))

    def test_denominator_left_out(self):
        for n in (0, 1, -1, 6, BIG, -BIG):
            self.same(rational(n), (n, 1))

    def test_arguments_by_name(self):
        self.same(rational(n=6, d=4), (3, 2))
        self.same(rational(d=4, n=6), (3, 2))
        self.same(rational(6, d=4), (3, 2))
        self.same(rational(n=6), (6, 1))

    def test_numerator_is_no_integer(self):
        for value in NOT_INTEGERS:
            self.assertIs(self.refused(BadNumber, rational, value).given, value)
            self.assertIs(self.refused(BadNumber, rational, value, 2).given, value)

    def test_denominator_is_no_integer(self):
        for value in NOT_INTEGERS:
            self.assertIs(self.refused(BadNumber, rational, 3, value).given, value)

    def test_the_first_wrong_one_is_told(self):
        self.assertEqual(self.refused(BadNumber, rational, "n", "d").given, "n")
        self.assertIs(self.refused(BadNumber, rational, True, False).given, True)
        self.assertEqual(self.refused(BadNumber, rational, d="d", n="n").given, "n")

    def test_division_by_zero(self):
        for n in (0, 1, -1, BIG):
            self.refused(DivisionByZero, rational, n, 0)

    def test_bad_number_ahead_of_division_by_zero(self):
        self.assertEqual(self.refused(BadNumber, rational, "n", 0).given, "n")
        self.assertIs(self.refused(BadNumber, rational, 1, False).given, False)


class TestOperations(ExactCase):
    operations = (
        (add, lambda a, b: a + b), (subtract, lambda a, b: a - b),
        (multiply, lambda a, b: a * b), (divide, lambda a, b: a / b),
    )

    def check_all(self, numbers):
        for call, reference in self.operations:
            for a in numbers:
                for b in numbers:
                    if call is not divide or b[0] != 0:
                        self.same(call(a, b), pair(reference(Fraction(*a), Fraction(*b))))

    def check_order(self, numbers):
        for a in numbers:
            for b in numbers:
                left, right = Fraction(*a), Fraction(*b)
                self.same(compare(a, b), (left > right) - (left < right))

    def test_small_parts(self):
        self.check_all(small_numbers())

    def test_large_parts(self):
        self.check_all(large_numbers()[::3])

    def test_compare_small_parts(self):
        self.check_order(small_numbers())

    def test_compare_large_parts(self):
        self.check_order(large_numbers()[::3])

    def test_compare_is_exact_between_near_neighbours(self):
        self.same(compare((BIG, BIG + 1), (BIG - 1, BIG)), 1)
        self.same(compare((BIG - 1, BIG), (BIG, BIG + 1)), -1)
        self.same(compare((1 - BIG, BIG), (-BIG, BIG + 1)), 1)
        self.same(compare((BIG - 1, BIG), (BIG - 1, BIG)), 0)

    def test_examples(self):
        self.same(subtract((1, 2), (1, 3)), (1, 6))
        self.refused(DivisionByZero, divide, (1, 2), (0, 1))

    def test_common_factors_are_removed(self):
        self.same(add((1, 6), (1, 3)), (1, 2))
        self.same(add((1, 2), (-1, 2)), (0, 1))
        self.same(subtract((5, 6), (1, 3)), (1, 2))
        self.same(multiply((2, 3), (3, 2)), (1, 1))
        self.same(multiply((0, 1), (-3, 7)), (0, 1))
        self.same(divide((2, 3), (4, 9)), (3, 2))

    def test_divisor_below_zero(self):
        self.same(divide((1, 2), (-1, 3)), (-3, 2))
        self.same(divide((-1, 2), (-1, 3)), (3, 2))
        self.same(divide((0, 1), (-1, 3)), (0, 1))
        self.same(divide((1, 1), (-BIG, 1)), (-1, BIG))

    def test_arguments_by_name(self):
        self.same(add(b=(1, 3), a=(1, 2)), (5, 6))
        self.same(subtract(b=(1, 3), a=(1, 2)), (1, 6))
        self.same(multiply(b=(1, 3), a=(1, 2)), (1, 6))
        self.same(divide(b=(1, 3), a=(1, 2)), (3, 2))
        self.same(compare(b=(1, 3), a=(1, 2)), 1)

    def test_what_is_no_rational_is_told(self):
        for call in (add, subtract, multiply, divide, compare):
            for value in NOT_RATIONALS:
                self.assertIs(self.refused(BadNumber, call, value, (1, 2)).given, value)
                self.assertIs(self.refused(BadNumber, call, (1, 2), value).given, value)

    def test_the_first_wrong_one_is_told(self):
        for call in (add, subtract, multiply, divide, compare):
            self.assertEqual(self.refused(BadNumber, call, (2, 4), (3, 6)).given, (2, 4))
            self.assertEqual(self.refused(BadNumber, call, b=(3, 6), a=(2, 4)).given, (2, 4))

    def test_division_by_zero(self):
        for a in ((0, 1), (1, 2), (-1, 2), (BIG, 1)):
            self.refused(DivisionByZero, divide, a, (0, 1))

    def test_bad_number_ahead_of_division_by_zero(self):
        self.assertEqual(self.refused(BadNumber, divide, (2, 4), (0, 1)).given, (2, 4))
        self.assertEqual(self.refused(BadNumber, divide, (1, 2), (0, 2)).given, (0, 2))
        self.assertEqual(self.refused(BadNumber, divide, 0, 0).given, 0)

    def test_arguments_are_left_as_they_were(self):
        for call in (add, subtract, multiply, divide, compare):
            wrong = [1, 2]
            self.refused(BadNumber, call, wrong, wrong)
            self.assertEqual(wrong, [1, 2])


class TestRounding(ExactCase):
    def check(self, number, places):
        units = units_of(number, places)
        self.same(rounded(number, places=places), pair(Fraction(units, 10 ** places)))
        self.same(decimal(number, places=places), text_of(number, places))

    def test_examples(self):
        self.same(rounded((-1, 8), places=2), (-13, 100))
        self.same(decimal((-1, 8), places=2), "-0.13")
        self.same(decimal((-1, 900), places=2), "0.00")

    def test_small_parts_at_every_number_of_places(self):
        for n in range(-41, 42):
            for d in (1, 2, 3, 4, 5, 7, 8, 16, 20, 25, 40):
                if gcd(n, d) == 1:
                    for places in range(10):
                        self.check((n, d), places)

    def test_large_parts(self):
        for number in large_numbers():
            for places in (0, 1, 5, 9):
                self.check(number, places)

    def test_halfway_goes_away_from_zero(self):
        for places in range(10):
            scale = 10 ** places
            for units in (0, 1, 2, 4, 5, 9, 10, 99, 12344, 12345):
                half = pair(Fraction(2 * units + 1, 2 * scale))
                self.same(rounded(half, places=places), pair(Fraction(units + 1, scale)))
                self.same(rounded((-half[0], half[1]), places=places), pair(Fraction(-units - 1, scale)))

    def test_just_below_and_above_halfway(self):
        for places in range(10):
            scale = 10 ** places
            for units in (0, 1, 2, 9, 12345):
                half = Fraction(2 * units + 1, 2 * scale)
                little = Fraction(1, BIG)
                for sign in (1, -1):
                    below = pair(sign * (half - little))
                    above = pair(sign * (half + little))
                    self.same(rounded(below, places=places), pair(sign * Fraction(units, scale)))
                    self.same(rounded(above, places=places), pair(sign * Fraction(units + 1, scale)))

    def test_places_left_out(self):
        for number, whole in (((1, 2), 1), ((-1, 2), -1), ((1, 3), 0), ((-1, 3), 0), ((3, 2), 2), ((-3, 2), -2),
                              ((5, 2), 3), ((-5, 2), -3), ((7, 1), 7), ((0, 1), 0), ((BIG, 1), BIG)):
            self.same(rounded(number), (whole, 1))
            self.same(decimal(number), str(whole))

    def test_decimal_texts(self):
        for number, places, text in (
                ((0, 1), 0, "0"), ((0, 1), 1, "0.0"), ((0, 1), 9, "0.000000000"), ((5, 1), 3, "5.000"),
                ((-5, 1), 3, "-5.000"), ((1, 20), 1, "0.1"), ((-1, 20), 1, "-0.1"), ((1, 100), 2, "0.01"),
                ((101, 100), 2, "1.01"), ((999, 1000), 2, "1.00"), ((-999, 1000), 2, "-1.00"), ((1999, 100), 1, "20.0"),
                ((1, 3), 9, "0.333333333"), ((-2, 3), 9, "-0.666666667"), ((12345, 1), 0, "12345"),
                ((1, 10 ** 9), 9, "0.000000001"), ((-BIG, 1), 1, "-1" + "0" * 40 + ".0")):
            self.same(decimal(number, places=places), text)

    def test_rounded_zero_has_no_sign(self):
        for places in range(10):
            little = (-1, 2 * 10 ** places + 1)
            self.same(rounded(little, places=places), (0, 1))
            self.same(decimal(little, places=places), "0" if places == 0 else "0." + "0" * places)

    def test_arguments_by_name(self):
        self.same(rounded(places=1, value=(1, 3)), (3, 10))
        self.same(decimal(places=1, value=(1, 3)), "0.3")
        self.same(rounded(value=(1, 3)), (0, 1))
        self.same(decimal(value=(1, 3)), "0")

    def test_places_only_by_name(self):
        self.assertRaises(TypeError, rounded, (1, 3), 1)
        self.assertRaises(TypeError, decimal, (1, 3), 1)

    def test_what_is_no_rational_is_told(self):
        for call in (rounded, decimal):
            for value in NOT_RATIONALS:
                self.assertIs(self.refused(BadNumber, call, value).given, value)
                self.assertIs(self.refused(BadNumber, call, value, places=2).given, value)

    def test_wrong_places_are_told(self):
        for call in (rounded, decimal):
            for places in WRONG_PLACES:
                for value in ((1, 2), (0, 1), (5, 1)):
                    self.assertIs(self.refused(BadNumber, call, value, places=places).given, places)

    def test_wrong_value_ahead_of_wrong_places(self):
        for call in (rounded, decimal):
            for places in WRONG_PLACES:
                self.assertEqual(self.refused(BadNumber, call, (2, 4), places=places).given, (2, 4))


if __name__ == "__main__":
    unittest.main()
