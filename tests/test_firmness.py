"""Promises [19] and [5] (d): firmness."""

import itertools
import random
import unittest

import reference
from common import LIMIT, ODD_THINGS, Case, col, number
from liveclaims.claims import truth
from liveclaims.errors import BadClaim, NotRowwise
from liveclaims.firmness import firmness
from liveclaims.notebooks import Notebook
from liveclaims.registers import Register

COLUMNS = (("item", "word"), ("cost", "number"), ("sold", "flag"))
FUNCTIONS = ("count", "sum", "mean", "median", "least", "greatest")


def book(*rows):
    r = Register("r", COLUMNS)
    for row in rows:
        r.add(row, author="bo")
    nb = Notebook([r])
    nb.put("c", ("r", ()))
    return nb


def costs(*values):
    return book(*[(None, (value, 1) if isinstance(value, int) else value, None) for value in values])


def flags(*values):
    return book(*[(None, None, value) for value in values])


def copied(nb):
    """The same cells over a copy of the registers."""
    found = Notebook([origin.twin() for origin in nb.registers()])
    for name, pipeline in nb.cells().items():
        found.put(name, pipeline)
    for label, index in nb.setting().items():
        found.choose(label, index)
    return found


def truth_without(nb, claim, places):
    held = copied(nb)
    for origin in held.registers():
        for name, row in places:
            if name == origin.name():
                origin.strike(row, author="bo")
    return truth(held, claim)


def least_by_trying(nb, claim):
    """The least number of struck rows, found by trying all sets; 0 if the claim is not True, None if there is none."""
    cell = claim[1] if claim[0] == "share" else claim[1][1]
    places = nb.value(cell).lineage()
    for count in range(len(places) + 1):
        for struck in itertools.combinations(places, count):
            if truth_without(nb, claim, struck) is not True:
                return count
    return None


class Firm(Case):
    def check(self, nb, claim):
        """The count is the least one, and the rows, struck in the register, end the claim."""
        found = firmness(nb, claim)
        expected = least_by_trying(nb, claim)
        self.check_rows(nb, claim, found)
        self.same(None if found is None else found[0], expected)
        return found

    def check_rows(self, nb, claim, found):
        if found is not None:
            self.assertIsInstance(found, tuple)
            count, rows = found
            self.assertIsInstance(rows, list)
            self.same(rows, sorted(set(rows)))
            self.assertEqual(len(rows), count)
            self.assertIsNot(truth_without(nb, claim, rows), True)


class TestExample(Case):
    def test_mean(self):
        h = Register("h", (("cost", "number"),))
        for cost in (170, 181, 100, 160):
            h.add(((cost, 1),), author="bo")
        nb = Notebook([h])
        nb.put("every", ("h", ()))
        self.same(firmness(nb, ("least", ("mean", "every", "cost"), (145, 1))), (1, [("h", 1)]))
        self.same(firmness(claim=("least", ("mean", "every", "cost"), (145, 1)), notebook=nb), (1, [("h", 1)]))


class TestNotTrueNow(Case):
    def test_false(self):
        nb = costs(1, 2, 3)
        for claim in (("least", ("sum", "c", "cost"), (7, 1)), ("most", ("mean", "c", "cost"), (1, 1)),
                      ("least", ("count", "c", "cost"), (4, 1)), ("share", "c", ("missing", col("cost")), (0, 1))):
            self.same(firmness(nb, claim), (0, []))

    def test_unknown(self):
        nb = costs(None, None)
        for function in ("mean", "median", "least", "greatest"):
            self.same(firmness(nb, ("least", (function, "c", "cost"), (0, 1))), (0, []))
            self.same(firmness(nb, ("most", (function, "c", "cost"), (0, 1))), (0, []))
        self.same(firmness(costs(), ("share", "c", ("value", True), (0, 1))), (0, []))

    def test_told_lists_belong_to_the_caller(self):
        nb = costs(1)
        claim = ("least", ("sum", "c", "cost"), (7, 1))
        firmness(nb, claim)[1].append(1)
        self.same(firmness(nb, claim), (0, []))


class TestNever(Case):
    def test_stays_true(self):
        nb = costs(3, -1, None, 4)
        for claim in (("least", ("count", "c", "cost"), (0, 1)), ("least", ("count", "c", "cost"), (-1, 2)),
                      ("most", ("count", "c", "cost"), (3, 1)), ("most", ("count", "c", "cost"), (7, 2)),
                      ("least", ("sum", "c", "cost"), (-1, 1)), ("most", ("sum", "c", "cost"), (7, 1)),
                      ("least", ("sum", "c", "cost"), (-10 ** 50, 1))):
            self.assertIsNone(firmness(nb, claim))

    def test_no_rows(self):
        nb = costs()
        self.assertIsNone(firmness(nb, ("most", ("count", "c", "cost"), (0, 1))))
        self.assertIsNone(firmness(nb, ("least", ("sum", "c", "cost"), (0, 1))))
        self.assertIsNone(firmness(costs(None), ("most", ("sum", "c", "cost"), (0, 1))))


class TestBounds(Firm):
    def test_count(self):
        nb = costs(5, None, 5, 7)
        for q, count in (((3, 1), 1), ((2, 1), 2), ((1, 1), 3), ((5, 2), 1), ((1, 2), 3), ((1, 10 ** 50), 3)):
            self.same(self.check(nb, ("least", ("count", "c", "cost"), q))[0], count)

    def test_count_of_each_kind(self):
        nb = book(("a", None, True), (None, None, None), ("b", (1, 1), None))
        self.same(self.check(nb, ("least", ("count", "c", "item"), (1, 1))), (2, [("r", 0), ("r", 2)]))
        self.same(self.check(nb, ("least", ("count", "c", "sold"), (1, 1))), (1, [("r", 0)]))

    def test_sum(self):
        nb = costs(5, -2, 9, None, 1)
        for q, count in (((13, 1), 1), ((12, 1), 1), ((5, 1), 1), ((4, 1), 2), ((0, 1), 2), ((-1, 1), 3)):
            self.same(self.check(nb, ("least", ("sum", "c", "cost"), q))[0], count)
        self.assertIsNone(self.check(nb, ("least", ("sum", "c", "cost"), (-2, 1))))
        for q, count in (((13, 1), 1), ((29, 2), 1)):
            self.same(self.check(nb, ("most", ("sum", "c", "cost"), q)), (count, [("r", 1)]))
        self.assertIsNone(self.check(nb, ("most", ("sum", "c", "cost"), (15, 1))))

    def test_mean_ends_when_no_values_are_left(self):
        nb = costs(5, 5, None, 5)
        for q in ((5, 1), (4, 1)):
            self.same(self.check(nb, ("least", ("mean", "c", "cost"), q)), (3, [("r", 0), ("r", 1), ("r", 3)]))
        for q in ((5, 1), (6, 1)):
            self.same(self.check(nb, ("most", ("mean", "c", "cost"), q)), (3, [("r", 0), ("r", 1), ("r", 3)]))

    def test_least_and_greatest(self):
        nb = costs(4, 2, None, 9, 2)
        self.same(self.check(nb, ("least", ("least", "c", "cost"), (2, 1)))[0], 4)
        self.same(self.check(nb, ("most", ("least", "c", "cost"), (2, 1))), (2, [("r", 1), ("r", 4)]))
        self.same(self.check(nb, ("most", ("least", "c", "cost"), (4, 1))), (3, [("r", 0), ("r", 1), ("r", 4)]))
        self.same(self.check(nb, ("least", ("greatest", "c", "cost"), (9, 1))), (1, [("r", 3)]))
        self.same(self.check(nb, ("least", ("greatest", "c", "cost"), (3, 1))), (2, [("r", 0), ("r", 3)]))
        self.same(self.check(nb, ("most", ("greatest", "c", "cost"), (9, 1)))[0], 4)

    def test_median(self):
        nb = costs(1, 2, 3, 10)
        for q, count in (((5, 2), 1), ((2, 1), 2), ((3, 2), 3), ((1, 1), 4)):
            self.same(self.check(nb, ("least", ("median", "c", "cost"), q))[0], count)

    def test_each_function_at_above_and_below_its_measure(self):
        for values in ((1, 2, 3, 10), (3, 3, 3), (5,), (-4, None, 4, 0, 7), (2, 2, 5, 5), (None, -1, -1, -6), ((1, 3), (1, 2), (3, 7))):
            nb = costs(*values)
            given = [(value, 1) if isinstance(value, int) else value for value in values]
            for function in FUNCTIONS:
                found = reference.total(function, given)
                for near in (0, 1, -1, 4, -4):
                    q = found + reference.Fraction(near, 2)
                    for word in ("least", "most"):
                        self.check(nb, (word, (function, "c", "cost"), (q.numerator, q.denominator)))

    def test_by_chance(self):
        chance = random.Random(41)
        for turn in range(120):
            values = [chance.choice((None, (chance.randint(-4, 4), 1), (chance.choice((-5, -1, 1, 5)), 2), (1, 3)))
                      for at in range(chance.randint(0, 6))]
            nb = costs(*values)
            claim = (chance.choice(("least", "most")), (chance.choice(FUNCTIONS), "c", "cost"),
                     chance.choice(((0, 1), (1, 1), (-1, 1), (1, 2), (3, 2), (2, 1), (-3, 1))))
            self.check(nb, claim)

    def test_beyond_the_limit(self):
        nb = costs((LIMIT, 1), (1, LIMIT), (LIMIT, 1), (-1, LIMIT - 1))
        self.same(self.check(nb, ("least", ("sum", "c", "cost"), (LIMIT + 1, 1)))[0], 1)
        self.same(self.check(nb, ("least", ("sum", "c", "cost"), (1, 10 ** 50)))[0], 2)
        self.same(self.check(nb, ("least", ("greatest", "c", "cost"), (1, LIMIT)))[0], 3)
        self.same(self.check(nb, ("least", ("greatest", "c", "cost"), (1, LIMIT + 1)))[0], 3)
        self.same(self.check(nb, ("least", ("greatest", "c", "cost"), (1, LIMIT - 1)))[0], 2)


class TestShares(Firm):
    def test_edges(self):
        nb = flags(True, True, False, True, None)
        for q, count in (((59, 100), 1), ((1, 2), 1), ((49, 100), 2), ((1, 3), 2), ((33, 100), 3), ((0, 1), 3)):
            self.same(self.check(nb, ("share", "c", col("sold"), q))[0], count)
        self.same(firmness(nb, ("share", "c", col("sold"), (3, 5))), (0, []))
        self.same(self.check(nb, ("share", "c", ("not", col("sold")), (1, 10))), (1, [("r", 2)]))

    def test_all_rows(self):
        nb = flags(True, True, True)
        for q in ((0, 1), (1, 2), (99, 100)):
            self.same(self.check(nb, ("share", "c", col("sold"), q)), (3, [("r", 0), ("r", 1), ("r", 2)]))
        self.same(self.check(flags(None, False), ("share", "c", ("value", True), (0, 1)))[0], 2)

    def test_by_chance(self):
        chance = random.Random(42)
        for turn in range(80):
            nb = flags(*[chance.choice((True, True, True, False, None)) for at in range(chance.randint(0, 7))])
            self.check(nb, ("share", "c", col("sold"), chance.choice(((0, 1), (1, 2), (1, 3), (2, 3), (3, 5), (9, 10)))))


class TestCells(Firm):
    def some_rows(self, chance, count):
        return [(chance.choice("ab"), reference.some_value(chance, "number"), chance.choice((True, False, None)))
                for at in range(count)]

    def test_rows_of_the_cell(self):
        nb = book(("a", (9, 1), False), ("b", (2, 1), True), ("c", (3, 1), True), ("d", (4, 1), None))
        nb.put("k", ("r", (("keep", col("sold")), ("set", "cost", ("times", col("cost"), number(-1))), ("sort", "cost", "up"),
                           ("rename", "cost", "loss"), ("select", ("loss",)))))
        nb.put("j", ("k", (("sort", "loss", "down"),)))
        self.same(self.check(nb, ("most", ("sum", "j", "loss"), (-3, 1))), (1, [("r", 2)]))
        self.same(self.check(nb, ("least", ("greatest", "j", "loss"), (-2, 1))), (1, [("r", 1)]))
        self.same(self.check(nb, ("share", "j", ("less", col("loss"), number(0)), (1, 2)))[0], 2)

    def test_cells_by_chance(self):
        chance = random.Random(43)
        for turn in range(60):
            nb = book(*self.some_rows(chance, chance.randint(0, 7)))
            nb.registers()[0].add((None, (1, 1), True), author="bo")
            nb.registers()[0].strike(0, author="bo")
            nb.put("k", ("r", (("sample", 2, 3, turn), ("keep", ("not", ("same", col("item"), ("value", "b")))))))
            nb.put("j", ("k", (("choose", "x", ((("sort", "cost", "up"),), (("keep", col("sold")),))),)))
            nb.choose("x", turn % 2)
            for claim in (("least", (chance.choice(FUNCTIONS), "j", "cost"), (0, 1)),
                          ("most", (chance.choice(FUNCTIONS), "j", "cost"), (1, 1)), ("share", "j", col("sold"), (1, 3))):
                self.check(nb, claim)

    def test_evaluated_and_tries(self):
        nb = costs(1, 2)
        nb.put("k", ("c", ()))
        firmness(nb, ("least", ("sum", "k", "cost"), (1, 1)))
        self.same((nb.evaluated(), nb.tries()), (["c", "k"], []))
        firmness(nb, ("least", ("sum", "k", "cost"), (9, 1)))
        self.same(nb.evaluated(), ["c", "k"])
        self.same((nb.registers()[0].version(), nb.setting()), (2, {}))


class TestHundreds(Firm):
    """Sets of rows are not tried one by one."""

    def check_rows(self, nb, claim, found):
        # A register has no room for so many entries, so the rows that stay go into another one.
        if found is not None:
            count, struck = found
            self.same((len(struck), struck), (count, sorted(set(struck))))
            rest = [values for values, lineage in nb.value("c").rows() if lineage[0] not in struck]
            self.assertEqual(len(rest), len(nb.value("c")) - count)
            self.assertIsNot(truth(book(*rest), claim), True)

    def test_small_numbers(self):
        chance = random.Random(44)
        values = [(chance.randint(-50, 90), 1) for at in range(390)]
        nb = costs(*values)
        for function in FUNCTIONS:
            for word, q in (("least", (1, 1)), ("most", (300, 1)), ("most", (60, 1))):
                self.check_rows(nb, (word, (function, "c", "cost"), q), firmness(nb, (word, (function, "c", "cost"), q)))

    def test_counts_that_are_known(self):
        nb = costs(*range(1, 301))
        self.same(firmness(nb, ("least", ("count", "c", "cost"), (101, 1)))[0], 200)
        self.same(firmness(nb, ("least", ("mean", "c", "cost"), (51, 1)))[0], 200)
        self.same(firmness(nb, ("most", ("median", "c", "cost"), (250, 1)))[0], 200)
        self.same(firmness(nb, ("least", ("greatest", "c", "cost"), (201, 1))), (100, [("r", at) for at in range(200, 300)]))
        self.same(firmness(nb, ("least", ("sum", "c", "cost"), (1, 1)))[0], 300)
        self.same(firmness(nb, ("share", "c", ("less", number(100), col("cost")), (1, 2)))[0], 100)

    def test_unlike_denominators(self):
        nb = costs(*[(1, 10 ** 39 + 2 * at + 1) for at in range(350)])
        for function in FUNCTIONS[1:]:
            found = firmness(nb, ("least", (function, "c", "cost"), (1, 10 ** 40)))
            self.assertEqual(found[0] in (341, 350), True, function)
            self.check_rows(nb, ("least", (function, "c", "cost"), (1, 10 ** 40)), found)


class TestErrors(Case):
    def setUp(self):
        self.nb = book(("a", (1, 1), True), ("b", (2, 1), False))
        self.nb.put("f", ("r", (("first", 1),)))
        self.nb.put("d", ("c", (("choose", "x", ((), (("distinct",),))),)))

    def test_for_any_value(self):
        for thing in ODD_THINGS:
            self.refused(BadClaim, firmness, self.nb, thing)
            for cell in ("c", "f"):
                self.refused(BadClaim, firmness, self.nb, ("least", (thing, cell, "cost"), (1, 1)))
                self.refused(BadClaim, firmness, self.nb, ("least", ("sum", cell, thing), (1, 1)))
                self.refused(BadClaim, firmness, self.nb, ("share", cell, thing, (1, 2)))
            self.refused(BadClaim, firmness, self.nb, ("least", ("sum", thing, "cost"), (1, 1)))
            self.refused(BadClaim, firmness, self.nb, ("share", thing, ("value", True), (1, 2)))

    def test_other_claims(self):
        for cell in ("c", "f"):
            total = ("sum", cell, "cost")
            for claim in (("more", total, total, (-1, 1)), ("rises", cell, "cost"), ("top", cell, "item", "a", "cost"),
                          ("least", ("only", cell, "cost"), (0, 1)), ("most", ("only", cell, "cost"), (9, 1)),
                          ("least", ("sum", cell, "item"), (0, 1)), ("share", cell, col("sold"), (1, 1)),
                          ("share", cell, col("cost"), (0, 1)), ("least", total, (2, 4))):
                self.refused(BadClaim, firmness, self.nb, claim)
        self.same(self.nb.evaluated(), [])

    def test_not_rowwise(self):
        for claim in (("least", ("sum", "f", "cost"), (0, 1)), ("most", ("count", "f", "item"), (0, 1)),
                      ("share", "f", col("sold"), (0, 1)), ("least", ("sum", "f", "cost"), (100, 1))):
            self.same(self.refused(NotRowwise, firmness, self.nb, claim).cell, "f")
        self.same((self.nb.evaluated(), self.nb.tries()), ([], []))

    def test_under_the_setting_in_use(self):
        claim = ("least", ("sum", "d", "cost"), (3, 1))
        self.same(firmness(self.nb, claim)[0], 1)
        self.nb.choose("x", 1)
        self.same(self.refused(NotRowwise, firmness, self.nb, claim).cell, "d")

    def test_arguments(self):
        self.assertRaises(TypeError, firmness, self.nb, ("share", "c", col("sold"), (0, 1)), {})


if __name__ == "__main__":
    unittest.main()
