"""Promises [17] and [18]: measures, claims and tries."""

import itertools
import random
import unittest

import reference
from common import LIMIT, ODD_THINGS, Case, col, dear, number
from liveclaims.choices import decisive, robustness
from liveclaims.claims import cells_of, check_claim, check_measure, measured, truth
from liveclaims.errors import BadChoice, BadClaim, TooLarge
from liveclaims.firmness import firmness
from liveclaims.notebooks import Notebook
from liveclaims.registers import Register

COLUMNS = (("item", "word"), ("cost", "number"), ("sold", "flag"))
FUNCTIONS = ("count", "sum", "mean", "median", "least", "greatest", "only")
NO_RATIONALS = (None, True, False, 0, 1, 1.5, "1", (1,), (2, 4), (1, 0), (1, -1), (0, 2), (1, 2, 3), (True, 1), (1, True),
                (1.0, 1), [1, 2], ("a", 1), (), {}, {1}, "a", b"1")
SHARE = ("share", "c", col("sold"), (1, 2))
M = ("mean", "c", "cost")
# One valid claim of each form.
VALID = (
    ("least", M, (1, 2)), ("most", ("count", "c", "item"), (3, 1)), ("more", M, ("only", "d", "cost"), (0, 1)), SHARE,
    ("rises", "c", "cost"), ("top", "c", "item", "lamp", "cost"),
)


def book(*rows, columns=COLUMNS):
    """A notebook with the cells c and d over the register r."""
    r = Register("r", columns)
    for row in rows:
        r.add(row, author="bo")
    nb = Notebook([r])
    nb.put("c", ("r", ()))
    nb.put("d", ("r", (("choose", "x", ((), (("first", 1),))),)))
    return nb


def costs(*values):
    return book(*[(None, value, None) for value in values])


class TestExamples(Case):
    def test_share(self):
        claim = ("share", "dear", ("less", ("value", (180, 1)), ("column", "cost")), (1, 2))
        self.same(truth(dear()[1], claim), True)

    def test_measured(self):
        r, nb = dear()
        self.same((measured(nb, ("mean", "dear", "cost")), measured(nb, ("count", "dear", "item"))), ((181, 1), (1, 1)))

    def test_rises(self):
        self.same(truth(dear()[1], ("rises", "dear", "cost")), None)

    def test_arguments_by_name(self):
        r, nb = dear()
        self.assertIsNone(check_measure(measure=("sum", "dear", "cost"), notebook=nb))
        self.assertIsNone(check_claim(claim=("rises", "dear", "cost"), notebook=nb))
        self.same(measured(measure=("sum", "dear", "cost"), notebook=nb, setting={}), (181, 1))
        self.same(truth(claim=("rises", "dear", "cost"), notebook=nb, setting={}), None)
        self.same(cells_of(claim=("rises", "dear", "cost")), ["dear"])
        self.assertRaises(TypeError, measured, nb, ("sum", "dear", "cost"), {})
        self.assertRaises(TypeError, truth, nb, ("rises", "dear", "cost"), {})


class TestMeasures(Case):
    def values(self, *given):
        nb = costs(*given)
        return [measured(nb, (function, "c", "cost")) for function in FUNCTIONS]

    def test_functions(self):
        self.same(self.values((3, 1), None, (1, 2), (-2, 1), (3, 1)),
                  [(4, 1), (9, 2), (9, 8), (7, 4), (-2, 1), (3, 1), None])
        self.same(self.values((5, 2)), [(1, 1), (5, 2), (5, 2), (5, 2), (5, 2), (5, 2), (5, 2)])

    def test_no_values(self):
        self.same(self.values(), [(0, 1), (0, 1), None, None, None, None, None])
        self.same(self.values(None, None), [(0, 1), (0, 1), None, None, None, None, None])

    def test_only(self):
        for given, expected in (((), None), (((7, 1),), (7, 1)), ((None,), None), (((7, 1), (7, 1)), None),
                                (((7, 1), None), None), ((None, (7, 1)), None)):
            self.same(measured(costs(*given), ("only", "c", "cost")), expected)

    def test_counts_of_each_kind(self):
        nb = book(("a", (1, 1), None), (None, None, None), ("b", None, False), ("a", None, None))
        for column, expected in (("item", (3, 1)), ("cost", (1, 1)), ("sold", (1, 1))):
            self.same(measured(nb, ("count", "c", column)), expected)

    def test_no_limit(self):
        self.same(self.values((LIMIT, 1), (LIMIT, 1), (2, 1)),
                  [(3, 1), (2 * LIMIT + 2, 1), (2 * LIMIT + 2, 3), (LIMIT, 1), (2, 1), (LIMIT, 1), None])
        self.same(measured(costs((1, LIMIT), (1, LIMIT - 1)), ("sum", "c", "cost")), (2 * LIMIT - 1, LIMIT * (LIMIT - 1)))
        self.same(measured(costs((1, LIMIT), (0, 1)), ("median", "c", "cost")), (1, 2 * LIMIT))

    def test_many_unlike_denominators(self):
        values = [(1, 10 ** 39 + at) for at in range(1, 120)]
        found = measured(costs(*values), ("sum", "c", "cost"))
        expected = reference.total("sum", values)
        self.assertEqual(found, (expected.numerator, expected.denominator))

    def test_settings(self):
        nb = costs((1, 1), (2, 1))
        self.same(measured(nb, ("sum", "d", "cost")), (3, 1))
        self.same(measured(nb, ("sum", "d", "cost"), setting={"x": 1}), (1, 1))
        nb.choose("x", 1)
        self.same(measured(nb, ("sum", "d", "cost")), (1, 1))
        self.same(measured(nb, ("sum", "d", "cost"), setting={}), (3, 1))
        for index in (2, -1, True, None):
            self.same(self.refused(BadChoice, measured, nb, ("sum", "d", "cost"), setting={"x": index}).label, "x")
        self.same(measured(nb, ("sum", "c", "cost"), setting={"x": 2}), (3, 1))

    def test_by_chance(self):
        chance = random.Random(31)
        for turn in range(100):
            values = [reference.some_value(chance, "number") for at in range(chance.randint(0, 7))]
            nb = costs(*values)
            for function in FUNCTIONS[:-1]:
                expected = reference.total(function, values)
                expected = None if expected is None else (expected.numerator, expected.denominator)
                self.same(measured(nb, (function, "c", "cost")), expected)

    def test_no_try_is_listed(self):
        nb = costs((1, 1))
        measured(nb, ("sum", "c", "cost"))
        self.same((nb.tries(), nb.evaluated()), ([], ["c"]))

    def test_too_large(self):
        nb = large()
        self.same(self.refused(TooLarge, measured, nb, ("count", "big", "item")).size, 1200)
        self.same(nb.evaluated(), ["big"])
        self.same(self.refused(TooLarge, measured, nb, ("count", "big", "item"), setting={}).size, 1200)
        self.same(nb.evaluated(), ["big"])


def large():
    """A notebook whose cell big is too large, as is bigger, by another number."""
    nb = book(*[(None, (1, 1), True)] * 300)
    nb.put("big", ("r", (("union", "r"), ("union", "r"), ("union", "r"))))
    nb.put("bigger", ("r", (("first", 250), ("union", "r"), ("union", "c"), ("union", "c"))))
    return nb


class TestInvalid(Case):
    def setUp(self):
        self.nb = book(("lamp", (1, 1), True))

    def bad_measure(self, measure):
        self.refused(BadClaim, check_measure, self.nb, measure)
        self.refused(BadClaim, measured, self.nb, measure)
        for claim in (("least", measure, (1, 1)), ("most", measure, (1, 1)), ("more", measure, M, (1, 1)), ("more", M, measure, (1, 1))):
            self.bad_claim(claim)

    def bad_claim(self, claim):
        for call in (check_claim, truth, firmness, robustness, decisive):
            self.refused(BadClaim, call, self.nb, claim)
        # Ahead of a wrong choice.
        self.refused(BadClaim, truth, self.nb, claim, setting={"x": 9})
        self.same((self.nb.tries(), self.nb.evaluated()), ([], []))

    def test_valid(self):
        for function in FUNCTIONS:
            self.assertIsNone(check_measure(self.nb, (function, "c", "cost")))
        for column in ("item", "sold"):
            self.assertIsNone(check_measure(self.nb, ("count", "d", column)))
        for claim in VALID:
            self.assertIsNone(check_claim(self.nb, claim))

    def test_measures(self):
        for thing in ODD_THINGS:
            self.bad_measure(thing)
            self.bad_measure((thing, "c", "cost"))
            self.bad_measure(("sum", thing, "cost"))
            self.bad_measure(("sum", "c", thing))
            self.bad_measure(("count", thing, "cost"))
            self.bad_measure(("count", "c", thing))
        self.bad_measure(("sum", "c"))
        self.bad_measure(("sum", "c", "cost", "cost"))
        self.bad_measure(["sum", "c", "cost"])
        for function in ("max", "Sum", "share", "rises", "number"):
            self.bad_measure((function, "c", "cost"))
        for cell in ("r", "e", "cc"):
            self.bad_measure(("sum", cell, "cost"))
            self.bad_measure(("count", cell, "cost"))
        for function in FUNCTIONS:
            self.bad_measure((function, "c", "price"))
            if function != "count":
                self.bad_measure((function, "c", "item"))
                self.bad_measure((function, "c", "sold"))

    def test_forms(self):
        for thing in ODD_THINGS:
            self.bad_claim(thing)
        for claim in VALID:
            self.bad_claim(list(claim))
            self.bad_claim(claim[:-1])
            self.bad_claim(claim + (claim[-1],))
            self.bad_claim(claim[1:])
            for word in ODD_THINGS + ("Least", "less", "only", "count", "claim"):
                self.bad_claim((word,) + claim[1:])

    def test_each_thing_exchanged(self):
        for claim in VALID:
            for at in range(1, len(claim)):
                for thing in ODD_THINGS:
                    # (1, 2) is one of them, a rational, and where a word is asked for a name is none of them.
                    if thing != (1, 2) or at != len(claim) - 1:
                        self.bad_claim(claim[:at] + (thing,) + claim[at + 1:])

    def test_bounds(self):
        for q in NO_RATIONALS:
            self.bad_claim(("least", M, q))
            self.bad_claim(("most", M, q))
            self.bad_claim(("more", M, M, q))
            self.bad_claim(("share", "c", col("sold"), q))
        for q in ((LIMIT + 1, 1), (-LIMIT - 1, 1), (1, LIMIT + 1), (10 ** 59, 1), (0, 1), (-5, 3)):
            for claim in (("least", M, q), ("most", M, q), ("more", M, M, q)):
                self.assertIsNone(check_claim(self.nb, claim))

    def test_share(self):
        for q in ((-1, 2), (-1, 10 ** 50), (1, 1), (3, 2), (10 ** 50, 1), (10 ** 50, 10 ** 50 - 1), (-LIMIT, 1)):
            self.bad_claim(("share", "c", col("sold"), q))
        for q in ((0, 1), (1, 10 ** 50), (10 ** 50 - 1, 10 ** 50)):
            self.assertIsNone(check_claim(self.nb, ("share", "c", col("sold"), q)))
        for expression in (col("cost"), col("item"), col("price"), number(1), ("not", col("cost")), ["column", "sold"],
                           ("value", None)):
            self.bad_claim(("share", "c", expression, (1, 2)))
        for cell in ("r", "e"):
            self.bad_claim(("share", cell, ("value", True), (1, 2)))
        deep = col("sold")
        for level in range(7):
            deep = ("not", deep)
        self.assertIsNone(check_claim(self.nb, ("share", "c", deep, (1, 2))))
        self.bad_claim(("share", "c", ("not", deep), (1, 2)))

    def test_rises(self):
        for cell, column in (("r", "cost"), ("e", "cost"), ("c", "item"), ("c", "sold"), ("c", "price")):
            self.bad_claim(("rises", cell, column))

    def test_top(self):
        for cell, label, word, column in (("r", "item", "lamp", "cost"), ("e", "item", "lamp", "cost"), ("c", "cost", "lamp", "cost"),
                                          ("c", "sold", "lamp", "cost"), ("c", "price", "lamp", "cost"), ("c", "item", "Lamp", "cost"),
                                          ("c", "item", "", "cost"), ("c", "item", "1", "cost"), ("c", "item", "lamp", "item"),
                                          ("c", "item", "lamp", "sold"), ("c", "item", "lamp", "price")):
            self.bad_claim(("top", cell, label, word, column))
        self.assertIsNone(check_claim(self.nb, ("top", "c", "item", "nosuchword", "cost")))

    def test_a_claim_may_become_invalid(self):
        self.nb.put("c", ("r", (("rename", "cost", "price"),)))
        for claim in (("least", M, (1, 1)), ("rises", "c", "cost"), ("top", "c", "item", "lamp", "cost")):
            self.bad_claim(claim)
        self.nb.drop("c")
        self.bad_claim(SHARE)


class TestTruth(Case):
    def told(self, nb, claim, expected):
        self.same(truth(nb, claim), expected)

    def test_least_and_most(self):
        nb = costs((1, 2), (3, 2), None)
        for q, least, most in (((1, 1), True, True), ((1, 2), True, False), ((3, 2), False, True), ((999, 1000), True, False),
                               ((1001, 1000), False, True), ((10 ** 50 + 1, 10 ** 50), False, True), ((-10 ** 50, 1), True, False)):
            self.told(nb, ("least", M, q), least)
            self.told(nb, ("most", M, q), most)

    def test_unknown_measures(self):
        nb = costs(None, None)
        for function in FUNCTIONS:
            expected = True if function in ("count", "sum") else None
            self.told(nb, ("least", (function, "c", "cost"), (0, 1)), expected)
            self.told(nb, ("most", (function, "c", "cost"), (0, 1)), expected)

    def test_measures_beyond_the_limit(self):
        nb = costs((LIMIT, 1), (LIMIT, 1))
        total = ("sum", "c", "cost")
        self.told(nb, ("least", total, (2 * LIMIT, 1)), True)
        self.told(nb, ("least", total, (2 * LIMIT + 1, 1)), False)
        self.told(nb, ("most", total, (2 * LIMIT, 1)), True)
        self.told(nb, ("more", total, ("count", "c", "cost"), (2 * LIMIT - 3, 1)), True)
        self.told(nb, ("more", total, ("count", "c", "cost"), (2 * LIMIT - 2, 1)), False)

    def test_more(self):
        nb = costs((1, 1), (4, 1))
        greatest, least = ("greatest", "c", "cost"), ("least", "d", "cost")
        for q, expected in (((3, 1), False), ((2, 1), True), ((4, 1), False), ((29, 10), True), ((-1, 1), True)):
            self.told(nb, ("more", greatest, least, q), expected)
        self.told(nb, ("more", least, greatest, (-3, 1)), False)
        self.told(nb, ("more", least, greatest, (-4, 1)), True)
        self.told(nb, ("more", ("only", "c", "cost"), least, (0, 1)), None)
        self.told(nb, ("more", least, ("only", "c", "cost"), (0, 1)), None)
        self.told(nb, ("more", greatest, greatest, (0, 1)), False)
        self.told(nb, ("more", greatest, greatest, (-1, 9)), True)

    def test_share(self):
        rows = [(None, None, flag) for flag in (True, True, False, None)]
        nb = book(*rows)
        for q, expected in (((1, 2), False), ((49, 100), True), ((0, 1), True), ((51, 100), False),
                            ((10 ** 50 - 1, 2 * 10 ** 50), True)):
            self.told(nb, ("share", "c", col("sold"), q), expected)
        self.told(nb, ("share", "c", ("missing", col("sold")), (1, 4)), False)
        self.told(nb, ("share", "c", ("missing", col("sold")), (6, 25)), True)
        self.told(nb, ("share", "c", ("not", col("sold")), (1, 4)), False)
        self.told(nb, ("share", "c", ("value", True), (99, 100)), True)
        self.told(nb, ("share", "c", ("value", False), (0, 1)), False)
        self.told(book(), SHARE, None)
        self.told(book(), ("share", "c", ("value", True), (0, 1)), None)

    def test_rises(self):
        for values, expected in (((), None), (((1, 1),), None), ((None,), None), (((1, 1), (2, 1)), True), (((1, 1), (1, 1)), False),
                                 (((2, 1), (1, 1)), False), (((1, 3), (1, 2), (2, 3)), True), (((1, 2), (1, 3)), False),
                                 (((1, 1), None), None), ((None, (1, 1)), None), (((2, 1), (1, 1), None), None),
                                 (((-1, 1), (0, 1), (0, 1), (1, 1)), False), (((-2, 1), (-1, 1), (LIMIT, 1)), True)):
            self.told(costs(*values), ("rises", "c", "cost"), expected)

    def test_top(self):
        claim = ("top", "c", "item", "lamp", "cost")
        for rows, expected in (
                ((), None),
                ((("desk", (1, 1)),), None),
                ((("lamp", (1, 1)),), True),
                ((("lamp", None),), None),
                ((("lamp", (1, 1)), ("lamp", (1, 1))), None),
                ((("lamp", (1, 1)), ("lamp", None)), None),
                ((("desk", (1, 2)), ("lamp", (2, 3)), (None, (1, 3))), True),
                ((("desk", (2, 3)), ("lamp", (2, 3))), False),
                ((("desk", (1, 1)), ("lamp", (2, 3))), False),
                (((None, (1, 1)), ("lamp", (2, 3))), False),
                ((("desk", None), ("lamp", (-2, 3)), (None, None)), True),
                ((("desk", None), ("lamp", None)), None),
                ((("desk", None), ("lamp", (1, 1)), ("mat", (2, 1))), False)):
            self.told(book(*[row + (None,) for row in rows]), claim, expected)

    def test_settings(self):
        nb = costs((1, 1), (2, 1))
        claim = ("rises", "d", "cost")
        self.same(truth(nb, claim), True)
        self.same(truth(nb, claim, setting={"x": 1}), None)
        nb.choose("x", 1)
        self.same(truth(nb, claim), None)
        self.same(truth(nb, claim, setting={}), True)
        self.same(truth(nb, claim, setting={"x": 0, "q": None}), True)

    def test_by_chance(self):
        chance = random.Random(32)
        for turn in range(150):
            rows = [reference.some_row(chance, COLUMNS) for at in range(chance.randint(0, 5))]
            nb = book(*rows)
            values = [row[1] for row in rows]
            q = chance.choice(reference.NUMBERS)
            for function in FUNCTIONS[:-1]:
                found = reference.total(function, values)
                self.told(nb, ("least", (function, "c", "cost"), q), None if found is None else found >= reference.fraction(q))
                self.told(nb, ("most", (function, "c", "cost"), q), None if found is None else found <= reference.fraction(q))
                other = reference.total("median", values)
                unknown = found is None or other is None
                self.told(nb, ("more", (function, "c", "cost"), ("median", "d", "cost"), q),
                          None if unknown else found - other > reference.fraction(q))


class TestOrderOfErrors(Case):
    def test_bad_choice(self):
        nb = costs((1, 1))
        nb.put("e", ("r", (("choose", "y", ((), ())), ("choose", "a", ((), ())))))
        nb.put("f", ("d", (("choose", "m", ((), (("union", "e"),))),)))
        claim = ("more", ("sum", "e", "cost"), ("sum", "d", "cost"), (0, 1))
        self.same(self.refused(BadChoice, truth, nb, claim, setting={"x": 2, "y": 2, "a": 2}).label, "a")
        self.same(self.refused(BadChoice, truth, nb, claim, setting={"y": 2, "x": 2}).label, "x")
        self.same(self.refused(BadChoice, truth, nb, claim, setting={"y": True}).label, "y")
        turned = ("more", ("sum", "d", "cost"), ("sum", "e", "cost"), (0, 1))
        self.same(self.refused(BadChoice, truth, nb, turned, setting={"y": 2, "x": 2}).label, "x")
        self.same(truth(nb, claim, setting={"m": 9}), False)
        # Labels through other cells, also of an alternative that is not chosen.
        self.same(self.refused(BadChoice, truth, nb, ("rises", "f", "cost"), setting={"x": 2, "m": 0, "a": -1}).label, "a")
        self.same(self.refused(BadChoice, measured, nb, ("sum", "f", "cost"), setting={"x": 2, "m": 0, "a": -1}).label, "a")
        self.same([held[0] for held in nb.tries()], [claim])
        self.same(nb.evaluated(), [])

    def test_too_large(self):
        nb = large()
        claim = ("more", ("count", "c", "item"), ("count", "big", "item"), (0, 1))
        self.same(self.refused(TooLarge, truth, nb, claim).size, 1200)
        self.same(nb.evaluated(), ["big"])
        self.same(self.refused(TooLarge, truth, nb, claim, setting={}).size, 1200)
        self.same(nb.evaluated(), ["big"])

    def test_too_large_by_the_first_cell(self):
        nb = large()
        for one, other in itertools.permutations(("big", "bigger")):
            claim = ("more", ("count", one, "item"), ("count", other, "item"), (0, 1))
            self.same(self.refused(TooLarge, truth, nb, claim).size, 1200)
        nb.put("big", ("r", ()))
        claim = ("more", ("count", "bigger", "item"), ("count", "big", "item"), (0, 1))
        self.same(self.refused(TooLarge, truth, nb, claim).size, 1150)
        self.same(nb.evaluated(), ["big", "big", "big", "c", "bigger"])

    def test_choices_come_ahead_of_the_size(self):
        nb = large()
        claim = ("more", ("count", "big", "item"), ("count", "d", "item"), (0, 1))
        self.same(self.refused(BadChoice, truth, nb, claim, setting={"x": 5}).label, "x")
        self.same(nb.tries(), [])
        self.same(self.refused(TooLarge, truth, nb, claim, setting={"x": 1}).size, 1200)
        self.same(nb.tries(), [(claim, (("x", 1),))])


class TestEvaluated(Case):
    def test_cells_ascending(self):
        nb = costs((1, 1))
        nb.put("z", ("r", ()))
        nb.put("a", ("z", ()))
        truth(nb, ("more", ("sum", "d", "cost"), ("sum", "a", "cost"), (0, 1)))
        self.same(nb.evaluated(), ["z", "a", "d"])
        truth(nb, ("more", ("sum", "c", "cost"), ("sum", "c", "cost"), (0, 1)))
        self.same(nb.evaluated(), ["z", "a", "d", "c"])
        truth(nb, ("rises", "a", "cost"))
        self.same(nb.evaluated(), ["z", "a", "d", "c"])

    def test_invalid_ones_evaluate_nothing(self):
        nb = costs((1, 1))
        self.refused(BadClaim, truth, nb, ("rises", "c", "item"))
        self.refused(BadChoice, truth, nb, ("rises", "d", "cost"), setting={"x": 3})
        self.same(nb.evaluated(), [])

    def test_a_setting_lists_nothing(self):
        nb = costs((1, 1))
        truth(nb, ("rises", "d", "cost"), setting={})
        measured(nb, ("sum", "d", "cost"), setting={})
        self.same(nb.evaluated(), [])


class TestTries(Case):
    def setUp(self):
        self.nb = costs((1, 1), (2, 1))
        self.nb.put("e", ("d", (("choose", "a", ((), (), (("union", "c"),))),)))
        self.one = ("rises", "c", "cost")
        self.two = ("rises", "e", "cost")

    def test_tries(self):
        truth(self.nb, self.two)
        truth(self.nb, self.one)
        truth(self.nb, self.two, setting={"x": 1})
        truth(self.nb, self.two, setting={"q": 5, "a": 2})
        self.same(self.nb.tries(), [(self.two, (("a", 0), ("x", 0))), (self.one, ()), (self.two, (("a", 0), ("x", 1))),
                                    (self.two, (("a", 2), ("x", 0)))])

    def test_without_duplicates(self):
        truth(self.nb, self.one)
        truth(self.nb, self.two)
        truth(self.nb, self.one, setting={"x": 1})
        truth(self.nb, self.two, setting={"x": 0, "a": 0})
        truth(self.nb, self.two, setting={})
        truth(self.nb, self.one)
        self.same(self.nb.tries(), [(self.one, ()), (self.two, (("a", 0), ("x", 0)))])

    def test_the_setting_in_use(self):
        self.nb.choose("x", 1)
        truth(self.nb, self.two)
        truth(self.nb, self.two, setting={})
        self.nb.choose("a", 1)
        truth(self.nb, self.two)
        self.same([held[1] for held in self.nb.tries()], [(("a", 0), ("x", 1)), (("a", 0), ("x", 0)), (("a", 1), ("x", 1))])

    def test_labels_of_all_cells_of_a_claim(self):
        claim = ("more", ("count", "c", "item"), ("count", "d", "item"), (0, 1))
        truth(self.nb, claim, setting={"a": 2, "x": 1})
        self.same(self.nb.tries(), [(claim, (("x", 1),))])

    def test_labels_ascending(self):
        names = ("q", "b", "k", "z", "m", "f", "t")
        for cell, labels in (("g", names[:4]), ("h", names[3:])):
            self.nb.put(cell, ("r", tuple([("choose", label, ((), ())) for label in labels])))
        claim = ("more", ("sum", "h", "cost"), ("sum", "g", "cost"), (0, 1))
        truth(self.nb, claim, setting={"z": 1, "b": 1, "m": 0})
        self.same(self.nb.tries(), [(claim, (("b", 1), ("f", 0), ("k", 0), ("m", 0), ("q", 0), ("t", 0), ("z", 1)))])
        wrong = {label: 2 for label in names}
        for label in sorted(names):
            self.same(self.refused(BadChoice, truth, self.nb, claim, setting=wrong).label, label)
            del wrong[label]

    def test_unlike_claims(self):
        flag = ("share", "c", ("value", True), (0, 1))
        other = ("share", "c", ("same", ("value", (1, 1)), ("value", (1, 1))), (0, 1))
        for claim in (flag, other, ("share", "c", ("value", False), (0, 1)), flag):
            truth(self.nb, claim)
        # True in place of 1, and 1 in place of True, make no claims.
        for claim in (("share", "c", ("value", 1), (0, 1)), ("share", "c", ("value", True), (False, 1)),
                      ("share", "c", ("value", True), (0, True)), ("share", "c", ("same", ("value", (True, 1)), ("value", (1, 1))), (0, 1))):
            self.refused(BadClaim, truth, self.nb, claim)
        for index in (True, False):
            self.refused(BadChoice, truth, self.nb, self.two, setting={"x": index})
        self.same(self.nb.tries(), [(flag, ()), (other, ()), (("share", "c", ("value", False), (0, 1)), ())])

    def test_wrong_ones_are_not_listed(self):
        self.refused(BadClaim, truth, self.nb, ("rises", "c", "item"))
        self.refused(BadClaim, truth, self.nb, None)
        self.refused(BadChoice, truth, self.nb, self.two, setting={"a": 3})
        check_claim(self.nb, self.one)
        self.same(self.nb.tries(), [])

    def test_too_large_ones_are_listed(self):
        nb = large()
        claim = ("rises", "big", "cost")
        self.refused(TooLarge, truth, nb, claim)
        self.refused(TooLarge, truth, nb, claim, setting={})
        self.same(nb.tries(), [(claim, ())])

    def test_nothing_removes_them(self):
        truth(self.nb, self.two)
        told = self.nb.tries()
        self.nb.choose("x", 1)
        self.nb.put("e", ("r", (("select", ("item",)),)))
        self.nb.drop("e")
        self.nb.tries().clear()
        self.same(self.nb.tries(), told)
        self.refused(BadClaim, truth, self.nb, self.two)
        self.same(self.nb.tries(), told)

    def test_labels_as_they_are_when_asked(self):
        truth(self.nb, self.two)
        self.nb.put("e", ("r", ()))
        truth(self.nb, self.two)
        self.same(self.nb.tries(), [(self.two, (("a", 0), ("x", 0))), (self.two, ())])

    def test_twins(self):
        truth(self.nb, self.one)
        twin = self.nb.twin()
        self.same(twin.tries(), [(self.one, ())])
        truth(twin, self.two)
        self.same(len(self.nb.tries()), 1)
        truth(self.nb, ("rises", "d", "cost"))
        self.same([held[0] for held in twin.tries()], [self.one, self.two])


class TestCells(Case):
    def test_cells_of(self):
        for claim, cells in ((("least", ("sum", "q", "a"), (0, 1)), ["q"]), (("most", ("only", "q", "a"), (0, 1)), ["q"]),
                             (("more", ("sum", "q", "a"), ("sum", "b", "a"), (0, 1)), ["b", "q"]),
                             (("more", ("sum", "b", "a"), ("sum", "q", "a"), (0, 1)), ["b", "q"]),
                             (("more", ("sum", "q", "a"), ("mean", "q", "b"), (0, 1)), ["q"]),
                             (("share", "q", ("value", True), (0, 1)), ["q"]), (("rises", "q", "a"), ["q"]),
                             (("top", "q", "a", "b", "c"), ["q"])):
            self.same(cells_of(claim), cells)

    def test_the_list_belongs_to_the_caller(self):
        claim = ("rises", "q", "a")
        cells_of(claim).clear()
        self.same(cells_of(claim), ["q"])


if __name__ == "__main__":
    unittest.main()
