"""Promises [14] and [15]: what each step makes of a table."""

import unittest

from common import LIMIT, Case, col, number
from liveclaims.errors import BadChoice, TooLarge
from liveclaims.registers import Register
from liveclaims.running import draw, run
from liveclaims.steps import check, resolved
from liveclaims.tables import Table, register_table

COLUMNS = (("item", "word"), ("cost", "number"), ("sold", "flag"))


def table_of(columns, *rows, name="r"):
    """A table whose row i has the lineage ((name, i),)."""
    return Table(columns, tuple([(values, ((name, at),)) for at, values in enumerate(rows)]))


def plain(count, name="r", column="a"):
    return table_of(((column, "number"),), *[((at, 1),) for at in range(count)], name=name)


GOODS = table_of(
    COLUMNS,
    ("lamp", (170, 1), True),
    ("desk", None, False),
    ("lamp", (160, 1), None),
    (None, (1, 2), True),
    ("desk", (-3, 1), False),
    (None, None, None),
)


class Steps(Case):
    def after(self, step, table=GOODS, **others):
        tables = dict(others, r=table)
        pipeline = ("r", (step,))
        found = run(tables, pipeline)
        self.assertIsInstance(found, Table)
        self.same(found.columns(), check({name: tables[name].columns() for name in tables}, pipeline))
        return found

    def kept(self, step, numbers, table=GOODS, **others):
        """The rows that stay are these of the table, in this order, with their values and lineages."""
        rows = table.rows()
        self.same(self.after(step, table, **others).rows(), [rows[at] for at in numbers])


class TestExamples(Case):
    ROWS = ((("lamp", (170, 1)), (("r", 0),)), (("desk", None), (("r", 1),)), (("lamp", (160, 1)), (("r", 2),)))
    T = Table((("item", "word"), ("cost", "number")), ROWS)

    def test_group(self):
        found = run({"r": self.T}, ("r", (("group", ("item",), (("m", "mean", "cost"),)),)))
        self.same(found.rows(), [(("lamp", (165, 1)), (("r", 0), ("r", 2))), (("desk", None), (("r", 1),))])

    def test_sort_and_first(self):
        found = run({"r": self.T}, ("r", (("sort", "cost", "down"), ("first", 2))))
        self.same(found.column("item"), ["lamp", "lamp"])

    def test_draw(self):
        self.same(draw(4, (("a", 2),), 9), 7)


class TestRun(Case):
    def test_arguments_by_name(self):
        self.assertEqual(run(pipeline=("r", ()), tables={"r": GOODS}, setting={}), GOODS)
        self.assertRaises(TypeError, run, {"r": GOODS}, ("r", ()), {})

    def test_no_steps(self):
        self.assertEqual(run({"r": GOODS, "s": plain(2)}, ("r", ())), GOODS)

    def test_steps_one_after_another(self):
        steps = (("keep", col("sold")), ("set", "cost", ("times", col("cost"), number(2))), ("sort", "cost", "up"), ("first", 1))
        self.same(run({"r": GOODS}, ("r", steps)).rows(), [((None, (1, 1), True), (("r", 3),))])

    def test_nothing_is_modified(self):
        tables = {"r": GOODS, "s": plain(3)}
        setting = {"x": 1}
        rows = GOODS.rows()
        found = run(tables, ("r", (("choose", "x", ((), (("sort", "cost", "up"),))), ("distinct",))), setting=setting)
        found.rows().clear()
        self.assertEqual((list(tables), setting), (["r", "s"], {"x": 1}))
        self.same(GOODS.rows(), rows)

    def test_tables_of_a_register(self):
        r = Register("prices", COLUMNS)
        r.add(("lamp", (1, 1), True), author="bo")
        r.add(("desk", (2, 1), True), author="bo")
        r.strike(0, author="bo")
        self.same(run({"c": register_table(r)}, ("c", (("select", ("cost",)),))).rows(), [(((2, 1),), (("prices", 1),))])


class TestRowSteps(Steps):
    def test_keep(self):
        self.kept(("keep", col("sold")), [0, 3])
        self.kept(("keep", ("not", col("sold"))), [1, 4])
        self.kept(("keep", ("missing", col("sold"))), [2, 5])
        self.kept(("keep", ("less", col("cost"), number(165))), [2, 3, 4])
        self.kept(("keep", ("value", True)), range(6))
        self.kept(("keep", ("value", False)), [])
        self.kept(("keep", col("sold")), [], Table(COLUMNS, ()))

    def test_set_of_a_column_that_is_there(self):
        found = self.after(("set", "item", ("missing", col("cost"))))
        self.same(found.columns(), (("item", "flag"), ("cost", "number"), ("sold", "flag")))
        self.same(found.column("item"), [False, True, False, False, False, True])
        self.same(found.column("cost"), GOODS.column("cost"))
        self.same([row[1] for row in found.rows()], [row[1] for row in GOODS.rows()])

    def test_set_reads_the_old_column(self):
        found = self.after(("set", "cost", ("plus", col("cost"), number(1))))
        self.same(found.column("cost"), [(171, 1), None, (161, 1), (3, 2), (-2, 1), None])

    def test_set_of_a_new_column(self):
        found = self.after(("set", "more", ("if", col("sold"), col("item"), ("value", "none"))))
        self.same(found.columns(), COLUMNS + (("more", "word"),))
        self.same(found.rows()[0], (("lamp", (170, 1), True, "lamp"), (("r", 0),)))
        self.same(found.column("more"), ["lamp", "none", None, None, "none", None])

    def test_select(self):
        found = self.after(("select", ("sold", "item")))
        self.same(found.rows()[:2], [((True, "lamp"), (("r", 0),)), ((False, "desk"), (("r", 1),))])
        self.assertEqual(len(found), 6)
        # Rows that become equal are not merged.
        self.same(self.after(("select", ("item",))).column("item"), GOODS.column("item"))

    def test_rename(self):
        found = self.after(("rename", "cost", "price"))
        self.same(found.columns(), (("item", "word"), ("price", "number"), ("sold", "flag")))
        self.same(found.rows(), GOODS.rows())
        self.assertEqual(self.after(("rename", "cost", "cost")), GOODS)

    def test_first(self):
        for count in range(9):
            self.kept(("first", count), range(min(count, 6)))
        self.kept(("first", 1000), range(6))
        self.assertEqual(len(self.after(("first", 1000), plain(1003))), 1000)


class TestSort(Steps):
    def test_numbers(self):
        self.kept(("sort", "cost", "up"), [4, 3, 2, 0, 1, 5])
        self.kept(("sort", "cost", "down"), [0, 2, 3, 4, 1, 5])

    def test_words(self):
        self.kept(("sort", "item", "up"), [1, 4, 0, 2, 3, 5])
        self.kept(("sort", "item", "down"), [0, 2, 1, 4, 3, 5])
        words = table_of((("w", "word"),), ("b",), ("a1",), ("a",), ("z9",), ("ab",), ("a0",), ("b",))
        self.same(self.after(("sort", "w", "up"), words).column("w"), ["a", "a0", "a1", "ab", "b", "b", "z9"])

    def test_flags(self):
        self.kept(("sort", "sold", "up"), [1, 4, 0, 3, 2, 5])
        self.kept(("sort", "sold", "down"), [0, 3, 1, 4, 2, 5])

    def test_sizes_and_not_tuples(self):
        values = [(1, 2), (1, 3), (2, 3), (-1, 2), (-1, 3), (0, 1), (7, 10), (100, 1), (3, 1)]
        table = table_of((("n", "number"),), *[(value,) for value in values])
        up = [(-1, 2), (-1, 3), (0, 1), (1, 3), (1, 2), (2, 3), (7, 10), (3, 1), (100, 1)]
        self.same(self.after(("sort", "n", "up"), table).column("n"), up)
        self.same(self.after(("sort", "n", "down"), table).column("n"), up[::-1])

    def test_sizes_at_the_limit(self):
        up = [(-LIMIT, 1), (1 - LIMIT, 1), (-1, LIMIT - 1), (-1, LIMIT), (0, 1), (1, LIMIT), (1, LIMIT - 1),
              (LIMIT - 3, LIMIT - 2), (LIMIT - 2, LIMIT - 1), (LIMIT - 1, LIMIT), (1, 1), (LIMIT, LIMIT - 1), (LIMIT - 1, 1), (LIMIT, 1)]
        for turned in (up, up[::-1], up[7:] + up[:7]):
            table = table_of((("n", "number"),), *[(value,) for value in turned])
            self.same(self.after(("sort", "n", "up"), table).column("n"), up)
            self.same(self.after(("sort", "n", "down"), table).column("n"), up[::-1])

    def test_ties_keep_their_order(self):
        table = table_of((("n", "number"),), *[value for at in range(5) for value in (((1, 1),), (None,), ((0, 1),))])
        self.kept(("sort", "n", "up"), [2, 5, 8, 11, 14, 0, 3, 6, 9, 12, 1, 4, 7, 10, 13], table)
        self.kept(("sort", "n", "down"), [0, 3, 6, 9, 12, 2, 5, 8, 11, 14, 1, 4, 7, 10, 13], table)

    def test_no_rows(self):
        self.kept(("sort", "cost", "down"), [], Table(COLUMNS, ()))


class TestSample(Steps):
    def drawn(self, seed, lineage, whole):
        h = seed + 1
        for origin, at in lineage:
            h = (h * 48271 + at * 69621 + 11) % 2147483647
        return h % whole

    def test_draw(self):
        self.same(draw(seed=4, lineage=(("a", 2),), whole=9), 7)
        self.same(draw(4, (), 9), 5)
        self.same(draw(10 ** 9, (), 1000), 1)
        for seed in (0, 1, 77, 10 ** 9):
            for lineage in ((), (("a", 0),), (("b", 0),), (("a", 0), ("b", 399)), (("a", 1), ("a", 2), ("c", 3))):
                for whole in (1, 2, 7, 1000):
                    self.same(draw(seed, lineage, whole), self.drawn(seed, lineage, whole))
        self.assertNotEqual(draw(1, (("a", 1), ("b", 2)), 1000), draw(1, (("a", 2), ("b", 1)), 1000))

    def test_sample(self):
        table = plain(200)
        for part, whole, seed in ((0, 1, 0), (1, 1, 0), (1, 2, 5), (3, 10, 10 ** 9), (999, 1000, 1), (1, 1000, 2)):
            numbers = [at for at in range(200) if self.drawn(seed, (("r", at),), whole) < part]
            self.kept(("sample", part, whole, seed), numbers, table)
        self.kept(("sample", 1, 1, 3), range(200), table)
        self.kept(("sample", 0, 1000, 3), [], table)

    def test_whole_lineages_are_drawn(self):
        table = Table((("a", "number"),), tuple([((None,), (("p", at), ("q", at * 3))) for at in range(50)]))
        numbers = [at for at in range(50) if self.drawn(8, (("p", at), ("q", at * 3)), 5) < 2]
        self.kept(("sample", 2, 5, 8), numbers, table)


class TestJoin(Steps):
    LEFT = table_of((("k", "word"), ("a", "number")), ("x", (1, 1)), ("y", (2, 1)), (None, (3, 1)), ("x", (4, 1)), ("z", (5, 1)))
    RIGHT = table_of((("b", "flag"), ("k", "word"), ("c", "number")),
                     (True, "x", (10, 1)), (False, "w", (11, 1)), (None, "x", None), (True, None, (12, 1)), (True, "y", (13, 1)), name="s")

    def test_by_one(self):
        found = self.after(("join", "s", ("k",)), self.LEFT, s=self.RIGHT)
        self.same(found.columns(), (("k", "word"), ("a", "number"), ("b", "flag"), ("c", "number")))
        self.same(found.rows(), [
            (("x", (1, 1), True, (10, 1)), (("r", 0), ("s", 0))),
            (("x", (1, 1), None, None), (("r", 0), ("s", 2))),
            (("y", (2, 1), True, (13, 1)), (("r", 1), ("s", 4))),
            (("x", (4, 1), True, (10, 1)), (("r", 3), ("s", 0))),
            (("x", (4, 1), None, None), (("r", 3), ("s", 2))),
        ])

    def test_missing_values_never_match(self):
        found = self.after(("join", "s", ("k",)), self.LEFT, s=self.RIGHT)
        self.assertNotIn(None, found.column("k"))

    def test_by_two_and_three(self):
        left = table_of(COLUMNS, ("a", (1, 1), True), ("a", (1, 1), False), ("a", None, True), ("b", (1, 1), True), ("a", (1, 1), None))
        right = table_of((("sold", "flag"), ("x", "word"), ("item", "word"), ("cost", "number")),
                         (True, "p", "a", (1, 1)), (False, "q", "a", (1, 1)), (True, "s", "a", None), (None, "t", "a", (1, 1)),
                         (True, "u", "b", (2, 1)), (True, "v", "b", (1, 1)), name="s")
        found = self.after(("join", "s", ("cost", "item", "sold")), left, s=right)
        self.same(found.rows(), [
            (("a", (1, 1), True, "p"), (("r", 0), ("s", 0))),
            (("a", (1, 1), False, "q"), (("r", 1), ("s", 1))),
            (("b", (1, 1), True, "v"), (("r", 3), ("s", 5))),
        ])
        two = run({"r": left, "s": right}, ("s", (("rename", "sold", "was"), ("join", "r", ("item", "cost")))))
        self.same(two.columns(), (("was", "flag"), ("x", "word"), ("item", "word"), ("cost", "number"), ("sold", "flag")))
        self.same(two.column("x"), ["p", "p", "p", "q", "q", "q", "t", "t", "t", "v"])
        self.same(two.column("sold"), [True, False, None, True, False, None, True, False, None, True])

    def test_with_itself(self):
        found = self.after(("join", "r", ("k", "a")), self.LEFT)
        rows = self.LEFT.rows()
        self.same(found.rows(), [rows[at] for at in (0, 1, 3, 4)])
        twice = table_of((("k", "word"),), ("x",), ("x",))
        self.same(self.after(("join", "r", ("k",)), twice).rows(), [
            (("x",), (("r", 0),)), (("x",), (("r", 0), ("r", 1))), (("x",), (("r", 0), ("r", 1))), (("x",), (("r", 1),))])

    def test_lineages_are_united(self):
        left = Table((("k", "word"),), ((("x",), (("b", 1), ("b", 3))),))
        right = Table((("k", "word"),), ((("x",), (("a", 7), ("b", 1), ("b", 2), ("c", 0))),))
        found = self.after(("join", "s", ("k",)), left, s=right)
        self.same(found.rows(), [(("x",), (("a", 7), ("b", 1), ("b", 2), ("b", 3), ("c", 0)))])

    def test_no_rows(self):
        empty = Table(self.RIGHT.columns(), ())
        self.same(self.after(("join", "s", ("k",)), self.LEFT, s=empty).rows(), [])
        self.same(self.after(("join", "s", ("k",)), Table(self.LEFT.columns(), ()), s=self.RIGHT).rows(), [])


class TestUnion(Steps):
    def test_union(self):
        other = table_of(COLUMNS, ("lamp", (170, 1), True), ("mat", None, None), name="s")
        found = self.after(("union", "s"), GOODS, s=other)
        self.same(found.rows(), GOODS.rows() + other.rows())

    def test_with_itself(self):
        self.same(self.after(("union", "r")).rows(), GOODS.rows() + GOODS.rows())

    def test_no_rows(self):
        empty = Table(COLUMNS, ())
        self.assertEqual(self.after(("union", "s"), GOODS, s=empty), GOODS)
        self.assertEqual(self.after(("union", "s"), empty, s=GOODS), GOODS)


class TestGroup(Steps):
    def test_by_one(self):
        found = self.after(("group", ("item",), (("c", "count", "cost"), ("s", "sum", "cost"))))
        self.same(found.rows(), [
            (("lamp", (2, 1), (330, 1)), (("r", 0), ("r", 2))),
            (("desk", (1, 1), (-3, 1)), (("r", 1), ("r", 4))),
            ((None, (1, 1), (1, 2)), (("r", 3), ("r", 5))),
        ])

    def test_by_several(self):
        found = self.after(("group", ("sold", "item"), (("n", "count", "sold"),)))
        self.same(found.rows(), [
            ((True, "lamp", (1, 1)), (("r", 0),)),
            ((False, "desk", (2, 1)), (("r", 1), ("r", 4))),
            ((None, "lamp", (0, 1)), (("r", 2),)),
            ((True, None, (1, 1)), (("r", 3),)),
            ((None, None, (0, 1)), (("r", 5),)),
        ])
        found = self.after(("group", ("sold", "item", "cost"), (("n", "count", "sold"),)))
        self.assertEqual(len(found), 6)

    def test_by_none(self):
        found = self.after(("group", (), (("c", "count", "item"), ("d", "count", "sold"), ("e", "count", "cost"))))
        self.same(found.rows(), [(((4, 1), (4, 1), (4, 1)), tuple([("r", at) for at in range(6)]))])

    def test_no_rows(self):
        empty = Table(COLUMNS, ())
        self.same(self.after(("group", (), (("c", "count", "item"),)), empty).rows(), [])
        self.same(self.after(("group", ("item",), (("c", "sum", "cost"),)), empty).rows(), [])

    def total(self, function, *values):
        table = table_of((("a", "number"),), *[(value,) for value in values])
        return self.after(("group", (), (("t", function, "a"),)), table).column("t")[0]

    def test_functions(self):
        values = ((3, 1), None, (1, 2), (-2, 1), (3, 1))
        for function, expected in (("count", (4, 1)), ("sum", (9, 2)), ("mean", (9, 8)), ("median", (7, 4)),
                                   ("least", (-2, 1)), ("greatest", (3, 1))):
            self.same(self.total(function, *values), expected)

    def test_functions_of_no_values(self):
        for function, expected in (("count", (0, 1)), ("sum", (0, 1)), ("mean", None), ("median", None), ("least", None),
                                   ("greatest", None)):
            self.same(self.total(function, None, None), expected)

    def test_median(self):
        self.same(self.total("median", (5, 1)), (5, 1))
        self.same(self.total("median", (5, 1), (1, 1)), (3, 1))
        self.same(self.total("median", (5, 1), (1, 1), (100, 1)), (5, 1))
        self.same(self.total("median", (1, 3), None, (1, 2)), (5, 12))
        self.same(self.total("median", (9, 1), (-9, 1), (1, 2), (1, 3)), (5, 12))
        self.same(self.total("median", (2, 1), (2, 1), (2, 1), (0, 1)), (2, 1))

    def test_least_and_greatest_by_size(self):
        values = ((1, 2), (1, 3), (2, 5), (-1, 2), (-2, 3))
        self.same(self.total("least", *values), (-2, 3))
        self.same(self.total("greatest", *values), (1, 2))
        near = ((LIMIT - 2, LIMIT - 1), (LIMIT - 1, LIMIT), (LIMIT - 3, LIMIT - 2))
        self.same(self.total("least", *near), near[2])
        self.same(self.total("greatest", *near), near[1])
        self.same(self.total("median", *near), near[0])

    def test_totals_above_the_limit(self):
        self.same(self.total("sum", (LIMIT, 1), (1, 1)), None)
        self.same(self.total("sum", (LIMIT - 1, 1), (1, 1)), (LIMIT, 1))
        self.same(self.total("sum", (-LIMIT, 1), (-1, 1)), None)
        self.same(self.total("sum", (1, LIMIT), (1, LIMIT - 1)), None)
        self.same(self.total("mean", (1, LIMIT), (0, 1)), None)
        self.same(self.total("median", (1, LIMIT), (0, 1)), None)
        self.same(self.total("median", (1, LIMIT), (2, 1), (0, 1)), (1, LIMIT))

    def test_totals_are_exact_over_the_whole_group(self):
        # What is above the limit on the way does not matter.
        self.same(self.total("sum", (LIMIT, 1), (LIMIT, 1), (-LIMIT, 1)), (LIMIT, 1))
        self.same(self.total("mean", (LIMIT, 1), (LIMIT, 1)), (LIMIT, 1))
        self.same(self.total("median", (LIMIT, 1), (LIMIT, 1), (LIMIT, 1), (0, 1)), (LIMIT, 1))
        self.same(self.total("sum", (1, LIMIT), (1, LIMIT - 1), (-1, LIMIT - 1)), (1, LIMIT))

    def test_counts_of_any_kind(self):
        found = self.after(("group", ("item",), (("w", "count", "item"), ("f", "count", "sold"), ("n", "count", "cost"))))
        self.same(found.column("w"), [(2, 1), (2, 1), (0, 1)])
        self.same(found.column("f"), [(1, 1), (2, 1), (1, 1)])
        self.same(found.column("n"), [(2, 1), (1, 1), (1, 1)])

    def test_flags_and_numbers_as_keys(self):
        table = table_of((("f", "flag"), ("n", "number")), (True, (1, 1)), (False, (0, 1)), (True, (0, 1)), (None, None), (True, (1, 1)))
        found = self.after(("group", ("f", "n"), (("c", "count", "f"),)), table)
        self.same([row[0] for row in found.rows()], [
            (True, (1, 1), (2, 1)), (False, (0, 1), (1, 1)), (True, (0, 1), (1, 1)), (None, None, (0, 1))])

    def test_lineages_are_united(self):
        table = Table((("a", "number"),), ((((1, 1),), (("r", 1), ("s", 5))), ((None,), ()), (((1, 1),), (("q", 2), ("r", 1)))))
        self.same(self.after(("group", ("a",), (("n", "count", "a"),)), table).rows(), [
            (((1, 1), (2, 1)), (("q", 2), ("r", 1), ("s", 5))), ((None, (0, 1)), ())])


class TestDistinct(Steps):
    def test_distinct(self):
        table = table_of((("w", "word"), ("n", "number")), ("a", (1, 1)), ("b", (1, 1)), ("a", (1, 1)), ("a", None), (None, None),
                         ("b", (1, 1)), (None, None), ("a", None), ("a", (1, 1)))
        self.same(self.after(("distinct",), table).rows(), [
            (("a", (1, 1)), (("r", 0), ("r", 2), ("r", 8))),
            (("b", (1, 1)), (("r", 1), ("r", 5))),
            (("a", None), (("r", 3), ("r", 7))),
            ((None, None), (("r", 4), ("r", 6))),
        ])

    def test_nothing_to_merge(self):
        self.assertEqual(self.after(("distinct",)), GOODS)
        self.same(self.after(("distinct",), Table(COLUMNS, ())).rows(), [])

    def test_lineages_are_united(self):
        table = Table((("a", "flag"),), (((True,), (("s", 5),)), ((True,), (("r", 1), ("s", 5)))))
        self.same(self.after(("distinct",), table).rows(), [((True,), (("r", 1), ("s", 5)))])


class TestChoose(Case):
    STEPS = (("choose", "y", ((), (("first", 2),), (("first", 1),))), ("choose", "x", ((), (("sort", "a", "down"),))),
             ("choose", "y", ((), (("sort", "a", "up"),), ())))
    T = {"r": table_of((("a", "number"),), ((1, 1),), ((2, 1),), ((3, 1),))}

    def found(self, setting):
        return [n for n, d in run(self.T, ("r", self.STEPS), setting=setting).column("a")]

    def test_settings(self):
        for setting, expected in ((None, [1, 2, 3]), ({}, [1, 2, 3]), ({"x": 1}, [3, 2, 1]), ({"y": 1, "x": 1}, [1, 2]),
                                  ({"y": 2}, [1]), ({"y": 2, "x": 0}, [1]), ({"z": 5, "x": 1, "q": None}, [3, 2, 1])):
            self.same(self.found(setting), expected)

    def test_resolved_runs_alike(self):
        for setting in ({}, {"x": 1}, {"y": 1}, {"y": 2, "x": 1}):
            self.assertEqual(run(self.T, resolved(("r", self.STEPS), setting)), run(self.T, ("r", self.STEPS), setting=setting))

    def test_long_resolved_pipelines(self):
        steps = (("choose", "x", ((), (("first", 3),) * 4)),) * 10
        self.assertEqual(run(self.T, resolved(("r", steps), {"x": 1})), self.T["r"])

    def test_wrong_indexes(self):
        for index in (-1, 2, True, False, None, 0.0, "0", (0,), [0], {}, 10 ** 50):
            self.same(self.refused(BadChoice, run, self.T, ("r", self.STEPS), setting={"x": index}).label, "x")

    def test_the_first_label_by_position(self):
        self.same(self.refused(BadChoice, run, self.T, ("r", self.STEPS), setting={"x": 2, "y": 3}).label, "y")
        self.same(self.refused(BadChoice, run, self.T, ("r", self.STEPS[1:]), setting={"y": 3, "x": 2}).label, "x")

    def test_choices_come_ahead_of_the_size(self):
        tables = {"r": plain(1000)}
        pipeline = ("r", (("union", "r"), ("choose", "x", ((), ()))))
        self.same(self.refused(BadChoice, run, tables, pipeline, setting={"x": 2}).label, "x")
        self.same(self.refused(TooLarge, run, tables, pipeline, setting={"x": 1}).size, 2000)


class TestTooLarge(Case):
    def test_union(self):
        self.assertEqual(len(run({"r": plain(600), "s": plain(400, "s")}, ("r", (("union", "s"),)))), 1000)
        error = self.refused(TooLarge, run, {"r": plain(600), "s": plain(401, "s")}, ("r", (("union", "s"),)))
        self.same(error.size, 1001)

    def test_join(self):
        def crossed(left, right):
            one = table_of((("k", "flag"), ("a", "number")), *[(True, (at, 1)) for at in range(left)])
            other = table_of((("k", "flag"), ("b", "number")), *[(True, (at, 1)) for at in range(right)], name="s")
            return {"r": one, "s": other}
        pipeline = ("r", (("join", "s", ("k",)),))
        self.assertEqual(len(run(crossed(40, 25), pipeline)), 1000)
        self.same(self.refused(TooLarge, run, crossed(91, 11), pipeline).size, 1001)
        self.same(self.refused(TooLarge, run, crossed(1000, 1000), pipeline).size, 10 ** 6)
        self.assertEqual(len(run(crossed(1000, 1), pipeline)), 1000)

    def test_a_later_step_does_not_help(self):
        tables = {"r": plain(1000)}
        for later in (("first", 1), ("keep", ("value", False)), ("distinct",), ("group", (), (("c", "count", "a"),))):
            self.same(self.refused(TooLarge, run, tables, ("r", (("union", "r"), later))).size, 2000)

    def test_an_earlier_step_helps(self):
        self.assertEqual(len(run({"r": plain(1000)}, ("r", (("keep", ("value", False)), ("union", "r"))))), 1000)

    def test_the_first_one_in_order(self):
        tables = {"r": plain(600), "s": plain(1000, "s")}
        self.same(self.refused(TooLarge, run, tables, ("r", (("union", "r"), ("union", "s")))).size, 1200)
        self.same(self.refused(TooLarge, run, tables, ("r", (("first", 1), ("union", "s"), ("union", "r")))).size, 1001)
        self.same(self.refused(TooLarge, run, tables, ("r", (("first", 0), ("union", "s"), ("union", "r")))).size, 1600)

    def test_only_what_is_chosen(self):
        tables = {"r": plain(600)}
        pipeline = ("r", (("choose", "x", ((), (("union", "r"),))),))
        self.assertEqual(len(run(tables, pipeline)), 600)
        self.same(self.refused(TooLarge, run, tables, pipeline, setting={"x": 1}).size, 1200)

    def test_other_steps_have_no_bound(self):
        table = plain(1500)
        for step in (("keep", ("value", True)), ("sort", "a", "down"), ("distinct",), ("set", "b", col("a")), ("rename", "a", "b"),
                     ("select", ("a",)), ("sample", 1, 1, 0), ("group", ("a",), (("c", "count", "a"),))):
            self.assertEqual(len(run({"r": table}, ("r", (step,)))), 1500)
        self.assertEqual(len(run({"r": table}, ("r", ()))), 1500)


if __name__ == "__main__":
    unittest.main()
