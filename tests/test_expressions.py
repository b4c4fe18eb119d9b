"""Promises [10], [11] and [12]: expressions, their kinds and their values."""

import copy
import itertools
import random
import unittest
from fractions import Fraction

from common import LIMIT, ODD_THINGS, Case, col, number
from liveclaims.errors import BadExpression
from liveclaims.expressions import evaluate, kind_of
from liveclaims.registers import is_value

COLUMNS = (("n", "number"), ("m", "number"), ("w", "word"), ("f", "flag"), ("g", "flag"))
N, M, W, F, G = [col(name) for name, kind in COLUMNS]
ARITHMETIC = ("plus", "minus", "times", "over")
FLAGS = (True, False, None)


def nested(depth, leaf=F):
    """An expression of that depth."""
    found = leaf
    for level in range(depth - 1):
        found = ("not", found)
    return found


class TestKinds(Case):
    def path(self, expression, columns=COLUMNS):
        return self.refused(BadExpression, kind_of, columns, expression).path

    def bad(self, expression, path, columns=COLUMNS):
        self.same(self.path(expression, columns), path)

    def test_examples(self):
        self.same(kind_of((("a", "number"),), ("less", ("column", "a"), ("value", (1, 2)))), "flag")
        self.bad(("plus", ("column", "a"), ("not", ("column", "a"))), (1, 0), (("a", "number"),))

    def test_arguments_by_name(self):
        self.same(kind_of(expression=N, columns=COLUMNS), "number")

    def test_columns(self):
        for name, kind in COLUMNS:
            self.same(kind_of(COLUMNS, col(name)), kind)

    def test_columns_that_are_not_there(self):
        for name in ODD_THINGS + ("x", "nn", "N", "n ", "number", ("n", "number"), ["n"], {"n": 1}):
            self.bad(col(name), ())
            self.bad(("missing", col(name)), (0,))

    def test_values(self):
        for value, kind in (((1, 2), "number"), ((0, 1), "number"), ((-3, 1), "number"), ("a", "word"), ("a0", "word"),
                            ("abcdefghijkl", "word"), ("n", "word"), ("zz", "word"), (True, "flag"), (False, "flag")):
            self.same(kind_of(COLUMNS, ("value", value)), kind)
            self.same(kind_of((("a", "word"),), ("value", value)), kind)

    def test_values_at_the_limit(self):
        for value in ((LIMIT, 1), (-LIMIT, 1), (1, LIMIT), (LIMIT, LIMIT - 1), (-LIMIT, LIMIT - 1)):
            self.same(kind_of(COLUMNS, ("value", value)), "number")
        for value in ((LIMIT + 1, 1), (-LIMIT - 1, 1), (1, LIMIT + 1), (-1, LIMIT + 1)):
            self.bad(("value", value), ())
            self.bad(("plus", N, ("value", value)), (1,))

    def test_invalid_values(self):
        for value in (None, 0, 1, -1, 1.0, 2.5, (2, 4), (0, 2), (1, 0), (1, -2), (1,), (1, 2, 3), (), (True, 1), (1, True),
                      (1.0, 1), ("a", 1), [1, 2], "", "A", "1a", "abcdefghijklm", "a b", b"a", ["a"], {}, {1}, len):
            self.bad(("value", value), ())
            self.bad(("missing", ("value", value)), (0,))

    def test_each_form(self):
        for word in ARITHMETIC:
            self.same(kind_of(COLUMNS, (word, N, M)), "number")
        self.same(kind_of(COLUMNS, ("less", N, M)), "flag")
        for word in ("both", "either"):
            self.same(kind_of(COLUMNS, (word, F, G)), "flag")
        self.same(kind_of(COLUMNS, ("not", F)), "flag")
        for part in (N, W, F):
            self.same(kind_of(COLUMNS, ("same", part, part)), "flag")
            self.same(kind_of(COLUMNS, ("missing", part)), "flag")
        for part, kind in ((N, "number"), (W, "word"), (F, "flag")):
            self.same(kind_of(COLUMNS, ("if", G, part, part)), kind)

    def test_wrong_kinds(self):
        for word in ARITHMETIC + ("less",):
            for wrong in (W, F):
                self.bad((word, wrong, N), (0,))
                self.bad((word, N, wrong), (1,))
                self.bad((word, wrong, wrong), (0,))
        for word in ("both", "either"):
            for wrong in (W, N):
                self.bad((word, wrong, F), (0,))
                self.bad((word, F, wrong), (1,))
                self.bad((word, wrong, wrong), (0,))
        for wrong in (W, N):
            self.bad(("not", wrong), (0,))

    def test_two_of_one_kind(self):
        for a, b in itertools.permutations((N, W, F), 2):
            self.bad(("same", a, b), (1,))
            self.bad(("if", G, a, b), (2,))
            # The first operand of a wrong kind comes ahead of two that differ.
            self.bad(("if", N, a, b), (0,))
            self.bad(("if", W, a, a), (0,))

    def test_not_a_tuple(self):
        for thing in ODD_THINGS:
            self.bad(thing, ())
        for form in (N, number(1), ("plus", N, M), ("not", F), ("if", F, N, M)):
            self.bad(list(form), ())
            self.bad(("missing", list(form)), (0,))

    def test_odd_words(self):
        for word in ODD_THINGS + ("Plus", "plus ", "add", "columns", "values", "and", "or", "number", "keep", "else", "is"):
            for rest in ((), (N,), (N, M), (F, N, M), (F, N, M, M)):
                self.bad((word,) + rest, ())

    def test_odd_operands(self):
        # A known form with an odd thing at each place.
        for thing in ODD_THINGS:
            for word in ARITHMETIC + ("less", "same"):
                self.bad((word, thing, N), (0,))
                self.bad((word, N, thing), (1,))
                self.bad((word, thing, thing), (0,))
            for word in ("both", "either"):
                self.bad((word, thing, F), (0,))
                self.bad((word, F, thing), (1,))
            for word in ("not", "missing"):
                self.bad((word, thing), (0,))
            self.bad(("if", thing, N, M), (0,))
            self.bad(("if", F, thing, M), (1,))
            self.bad(("if", F, N, thing), (2,))

    def test_lengths(self):
        forms = [(word, 2) for word in ARITHMETIC + ("less", "same", "both", "either")]
        forms += [("not", 1), ("missing", 1), ("if", 3)]
        for word, count in forms:
            for wrong in range(6):
                if wrong != count:
                    self.bad((word,) + (F,) * wrong, ())
                    self.bad((word,) + (N,) * wrong, ())
        for word, held in (("column", "n"), ("value", (1, 2))):
            self.bad((word,), ())
            self.bad((word, held, held), ())
            self.bad((word, held, None), ())

    def test_depth(self):
        for depth in range(1, 9):
            self.same(kind_of(COLUMNS, nested(depth)), "flag")
        self.bad(nested(9), (0,) * 8)
        self.bad(nested(20), (0,) * 8)
        self.bad(("both", nested(7), nested(8)), (1,) + (0,) * 7)
        self.bad(("both", nested(8), nested(7)), (0,) * 8)
        self.same(kind_of(COLUMNS, ("both", nested(7), nested(7))), "flag")
        self.bad(("if", F, number(1), ("if", F, N, ("if", F, N, ("if", F, N, ("if", F, N, ("if", F, N, (
            "if", F, N, ("if", F, N, M)))))))), (2,) * 7 + (0,))

    def test_what_is_too_deep_is_not_looked_into(self):
        for thing in ODD_THINGS:
            self.bad(nested(9, thing), (0,) * 8)
            self.bad(nested(8, thing), (0,) * 7)

    def test_too_deep_comes_ahead_of_a_wrong_kind(self):
        self.bad(("both", N, nested(8)), (1,) + (0,) * 7)
        self.bad(nested(8, N), (0,) * 7)

    def test_operands_from_left_to_right_and_each_completely(self):
        self.bad(("plus", ("not", N), ("bad",)), (0, 0))
        self.bad(("plus", ("bad",), ("not", N)), (0,))
        self.bad(("plus", N, ("plus", W, ("bad",))), (1, 1))
        self.bad(("plus", ("less", N, M), ("plus", N, ("column", "x"))), (1, 1))
        self.bad(("if", N, ("both", F, N), ("bad",)), (1, 1))
        self.bad(("if", ("same", N, W), ("bad",), ("bad",)), (0, 1))
        self.bad(("both", ("less", ("value", None), ("bad",)), ("bad",)), (0, 0))

    def test_invalid_parts_come_ahead_of_wrong_kinds(self):
        self.bad(("plus", W, ("bad",)), (1,))
        self.bad(("same", N, ("same", N, W)), (1, 1))
        self.bad(("not", ("plus", F, ("value", 1))), (0, 1))
        self.bad(("if", N, W, ("column", "x")), (2,))

    def test_the_result_of_an_operand_counts(self):
        self.same(kind_of(COLUMNS, ("plus", ("if", F, N, M), ("times", N, M))), "number")
        self.bad(("plus", ("if", F, W, W), N), (0,))
        self.bad(("plus", N, ("missing", N)), (1,))
        self.bad(("not", ("plus", N, M)), (0,))
        self.same(kind_of(COLUMNS, ("same", ("missing", W), ("less", N, M))), "flag")

    def test_nothing_is_modified(self):
        expression = ("value", [["a"], {"b": 1}])
        before = copy.deepcopy(expression)
        self.bad(expression, ())
        self.assertEqual(expression, before)


class TestValues(Case):
    def worth(self, expression, n=None, m=None, w=None, f=None, g=None):
        kind = kind_of(COLUMNS, expression)
        found = evaluate(COLUMNS, (n, m, w, f, g), expression)
        self.assertTrue(is_value(found, kind))
        return found

    def test_example(self):
        test = ("less", ("column", "a"), ("value", (1, 1)))
        self.same(evaluate((("a", "number"),), (None,), ("either", test, ("value", True))), True)

    def test_arguments_by_name(self):
        self.same(evaluate(expression=col("a"), values=("x",), columns=(("a", "word"),)), "x")

    def test_columns_and_values(self):
        row = ((1, 2), (-3, 1), "ab", True, False)
        for at, (name, kind) in enumerate(COLUMNS):
            self.same(evaluate(COLUMNS, row, col(name)), row[at])
            self.same(evaluate(COLUMNS, (None,) * 5, col(name)), None)
        for value in ((1, 2), "n", "ab", True, False):
            self.same(evaluate(COLUMNS, row, ("value", value)), value)

    def test_arithmetic(self):
        a, b = (1, 2), (-3, 1)
        self.same(self.worth(("plus", N, M), a, b), (-5, 2))
        self.same(self.worth(("minus", N, M), a, b), (7, 2))
        self.same(self.worth(("times", N, M), a, b), (-3, 2))
        self.same(self.worth(("over", N, M), a, b), (-1, 6))
        self.same(self.worth(("over", N, M), b, a), (-6, 1))
        self.same(self.worth(("minus", N, N), a), (0, 1))

    def test_arithmetic_as_fractions_tell(self):
        chance = random.Random(3)
        for turn in range(300):
            x = Fraction(chance.randint(-30, 30), chance.randint(1, 12))
            y = Fraction(chance.randint(-30, 30), chance.randint(1, 12))
            a, b = (x.numerator, x.denominator), (y.numerator, y.denominator)
            for word, result in (("plus", x + y), ("minus", x - y), ("times", x * y), ("over", x / y if y else None)):
                expected = None if result is None else (result.numerator, result.denominator)
                self.same(self.worth((word, N, M), a, b), expected)
            self.same(self.worth(("less", N, M), a, b), x < y)
            self.same(self.worth(("same", N, M), a, b), x == y)

    def test_missing_operands(self):
        for word in ARITHMETIC + ("less", "same"):
            self.same(self.worth((word, N, M), (1, 1), None), None)
            self.same(self.worth((word, N, M), None, (1, 1)), None)
            self.same(self.worth((word, N, M), None, None), None)
            self.same(self.worth((word, N, M), (0, 1), None), None)
        self.same(self.worth(("same", W, ("value", "a"))), None)
        self.same(self.worth(("same", ("value", "a"), W)), None)
        self.same(self.worth(("same", F, G)), None)
        self.same(self.worth(("same", F, G), f=False), None)
        self.same(self.worth(("same", F, F)), None)

    def test_division_by_zero(self):
        for n in ((1, 1), (0, 1), (-5, 3)):
            self.same(self.worth(("over", N, M), n, (0, 1)), None)
        self.same(self.worth(("over", N, M), (0, 1), (5, 1)), (0, 1))
        self.same(self.worth(("missing", ("over", N, ("minus", N, N))), (2, 1)), True)

    def test_results_at_the_limit(self):
        near, half = (LIMIT - 1, 1), (LIMIT // 2, 1)
        self.same(self.worth(("plus", N, M), near, (1, 1)), (LIMIT, 1))
        self.same(self.worth(("plus", N, M), near, (2, 1)), None)
        self.same(self.worth(("plus", N, M), half, half), (LIMIT, 1))
        self.same(self.worth(("minus", N, M), (1 - LIMIT, 1), (1, 1)), (-LIMIT, 1))
        self.same(self.worth(("minus", N, M), (1 - LIMIT, 1), (2, 1)), None)
        self.same(self.worth(("times", N, M), (10 ** 20, 1), (10 ** 20, 1)), (LIMIT, 1))
        self.same(self.worth(("times", N, M), (10 ** 20, 1), (-10 ** 20, 1)), (-LIMIT, 1))
        self.same(self.worth(("times", N, M), (10 ** 20, 1), (10 ** 20 + 1, 1)), None)
        self.same(self.worth(("over", N, M), (1, 10 ** 20), (10 ** 20, 1)), (1, LIMIT))
        self.same(self.worth(("over", N, M), (1, 10 ** 20), (10 ** 20 + 1, 1)), None)
        self.same(self.worth(("plus", N, M), (1, LIMIT), (1, LIMIT)), (1, LIMIT // 2))
        self.same(self.worth(("plus", N, M), (1, LIMIT), (1, LIMIT - 1)), None)
        self.same(self.worth(("times", N, M), (LIMIT, 1), (1, LIMIT)), (1, 1))
        self.same(self.worth(("plus", N, M), (LIMIT, 1), (-LIMIT, 1)), (0, 1))

    def test_only_the_reduced_result_counts(self):
        self.same(self.worth(("times", N, M), (LIMIT, 3), (3, LIMIT)), (1, 1))
        self.same(self.worth(("over", N, M), (LIMIT, 1), (LIMIT, 1)), (1, 1))
        # A part that is missing makes the whole missing, although the whole would be within the limit.
        self.same(self.worth(("minus", ("plus", N, N), N), (LIMIT, 1)), None)

    def test_comparing_is_never_above_the_limit(self):
        self.same(self.worth(("less", N, M), (LIMIT, 1), (1, LIMIT)), False)
        self.same(self.worth(("less", N, M), (LIMIT - 1, LIMIT), (LIMIT - 2, LIMIT - 1)), False)
        self.same(self.worth(("less", N, M), (LIMIT - 2, LIMIT - 1), (LIMIT - 1, LIMIT)), True)
        self.same(self.worth(("same", N, M), (LIMIT, 1), (LIMIT, 1)), True)

    def test_less_and_same(self):
        self.same(self.worth(("less", N, M), (1, 3), (1, 2)), True)
        self.same(self.worth(("less", N, M), (1, 2), (1, 2)), False)
        self.same(self.worth(("less", N, M), (-1, 2), (-1, 3)), True)
        self.same(self.worth(("less", N, M), (1, 2), (1, 3)), False)
        self.same(self.worth(("same", N, M), (1, 2), (1, 3)), False)
        self.same(self.worth(("same", W, ("value", "a")), w="a"), True)
        self.same(self.worth(("same", W, ("value", "a")), w="b"), False)
        for f, g in itertools.product((True, False), repeat=2):
            self.same(self.worth(("same", F, G), f=f, g=g), f == g)

    def test_both_and_either_in_full(self):
        both = {(True, True): True, (True, False): False, (True, None): None,
                (False, True): False, (False, False): False, (False, None): False,
                (None, True): None, (None, False): False, (None, None): None}
        either = {(True, True): True, (True, False): True, (True, None): True,
                  (False, True): True, (False, False): False, (False, None): None,
                  (None, True): True, (None, False): None, (None, None): None}
        for f, g in itertools.product(FLAGS, repeat=2):
            self.same(self.worth(("both", F, G), f=f, g=g), both[f, g])
            self.same(self.worth(("either", F, G), f=f, g=g), either[f, g])

    def test_not_and_missing(self):
        for f, result in ((True, False), (False, True), (None, None)):
            self.same(self.worth(("not", F), f=f), result)
            self.same(self.worth(("missing", F), f=f), f is None)
        self.same(self.worth(("missing", N)), True)
        self.same(self.worth(("missing", N), (0, 1)), False)
        self.same(self.worth(("missing", W)), True)
        self.same(self.worth(("missing", W), w="a"), False)
        self.same(self.worth(("missing", ("missing", W))), False)
        self.same(self.worth(("missing", ("value", False))), False)

    def test_if(self):
        for f, result in ((True, (1, 1)), (False, (2, 1)), (None, None)):
            self.same(self.worth(("if", F, N, M), (1, 1), (2, 1), f=f), result)
        self.same(self.worth(("if", F, N, M), None, (2, 1), f=True), None)
        self.same(self.worth(("if", F, N, M), None, (2, 1), f=False), (2, 1))
        self.same(self.worth(("if", F, N, M), (1, 1), None, f=True), (1, 1))
        self.same(self.worth(("if", F, W, ("value", "z")), w="a", f=True), "a")
        self.same(self.worth(("if", F, W, ("value", "z")), w="a", f=False), "z")
        self.same(self.worth(("if", F, G, ("value", True)), f=True, g=False), False)
        self.same(self.worth(("if", F, G, ("value", True)), f=False, g=False), True)

    def test_deep(self):
        for depth in range(1, 9):
            self.same(self.worth(nested(depth), f=True), depth % 2 == 1)
            self.same(self.worth(nested(depth)), None)


if __name__ == "__main__":
    unittest.main()
