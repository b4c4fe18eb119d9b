"""Promise [13]: tables and lineages."""

import unittest

from common import ODD_THINGS, Case, prices
from liveclaims.errors import NoVersion, UnknownName
from liveclaims.registers import Register
from liveclaims.tables import Table, register_table

COLUMNS = (("item", "word"), ("cost", "number"), ("sold", "flag"))
ROWS = (
    (("lamp", (170, 1), True), (("r", 2), ("s", 0))),
    (("desk", None, False), (("a", 9), ("r", 1), ("r", 2))),
    ((None, (1, 2), None), ()),
    (("lamp", (170, 1), True), (("r", 10),)),
)


class TestTable(Case):
    def test_what_it_was_made_of(self):
        table = Table(COLUMNS, ROWS)
        self.same(table.columns(), COLUMNS)
        self.same(table.rows(), list(ROWS))
        self.assertEqual(len(table), 4)

    def test_arguments_by_name(self):
        table = Table(rows=ROWS, columns=COLUMNS)
        self.same(table.rows(), list(ROWS))
        self.same(table.column(name="item"), ["lamp", "desk", None, "lamp"])

    def test_column(self):
        table = Table(COLUMNS, ROWS)
        self.same(table.column("item"), ["lamp", "desk", None, "lamp"])
        self.same(table.column("cost"), [(170, 1), None, (1, 2), (170, 1)])
        self.same(table.column("sold"), [True, False, None, True])

    def test_column_that_is_not_there(self):
        table = Table(COLUMNS, ROWS)
        for name in ODD_THINGS + ("x", "word", "ite", "items", ("item", "word"), ["item"], b"item"):
            self.assertIs(self.refused(UnknownName, table.column, name).key, name)

    def test_lineage(self):
        self.same(Table(COLUMNS, ROWS).lineage(), (("a", 9), ("r", 1), ("r", 2), ("r", 10), ("s", 0)))
        self.same(Table(COLUMNS, ROWS[2:3]).lineage(), ())

    def test_no_rows(self):
        table = Table(COLUMNS, ())
        self.same((table.rows(), table.column("cost"), table.lineage(), len(table)), ([], [], (), 0))
        self.same(table.columns(), COLUMNS)
        self.refused(UnknownName, table.column, "x")

    def test_repr(self):
        self.assertEqual(repr(Table(COLUMNS, ROWS)), "Table(3 columns, 4 rows)")
        self.assertEqual(repr(Table(COLUMNS[:1], ())), "Table(1 columns, 0 rows)")
        self.assertEqual(repr(Table(COLUMNS[:1], ((("a",), ()),))), "Table(1 columns, 1 rows)")

    def test_told_lists_belong_to_the_caller(self):
        table = Table(COLUMNS, ROWS)
        table.rows().clear()
        table.rows().append(1)
        table.column("item")[0] = "x"
        self.same(table.rows(), list(ROWS))
        self.same(table.column("item"), ["lamp", "desk", None, "lamp"])
        self.assertEqual(table, Table(COLUMNS, ROWS))


class TestEquality(Case):
    def test_equal(self):
        self.assertTrue(Table(COLUMNS, ROWS) == Table(COLUMNS, ROWS))
        self.assertFalse(Table(COLUMNS, ROWS) != Table(COLUMNS, ROWS))
        self.assertTrue(Table(COLUMNS, ()) == Table(COLUMNS, ()))

    def test_unequal(self):
        table = Table(COLUMNS, ROWS)
        others = (
            Table(COLUMNS, ()),
            Table(COLUMNS, ROWS[:3]),
            Table(COLUMNS, ROWS[::-1]),
            Table(COLUMNS, ROWS + ROWS[:1]),
            Table(COLUMNS, ROWS[:3] + ((("lamp", (170, 1), True), (("r", 11),)),)),
            Table(COLUMNS, ROWS[:3] + ((("lamp", (170, 1), True), (("s", 10),)),)),
            Table(COLUMNS, ROWS[:3] + ((("lamp", (170, 1), True), ()),)),
            Table(COLUMNS, ROWS[:3] + ((("lamp", (170, 1), False), (("r", 10),)),)),
            Table(COLUMNS, ROWS[:3] + ((("lamp", (171, 1), True), (("r", 10),)),)),
            Table(COLUMNS, ROWS[:3] + ((("lamp", None, True), (("r", 10),)),)),
            Table((("thing", "word"),) + COLUMNS[1:], ROWS),
        )
        for other in others:
            self.assertTrue(table != other)
            self.assertFalse(table == other)

    def test_columns_count_without_rows(self):
        empty = Table(COLUMNS, ())
        for columns in (COLUMNS[:2], COLUMNS[::-1], (("item", "flag"),) + COLUMNS[1:], (("b", "word"),) + COLUMNS[1:]):
            self.assertFalse(empty == Table(columns, ()))

    def test_flags_and_numbers(self):
        flags = Table((("a", "flag"),), (((True,), (("r", 1),)), ((False,), (("r", 0),))))
        numbers = Table((("a", "number"),), ((((1, 1),), (("r", 1),)), (((0, 1),), (("r", 0),))))
        self.assertFalse(flags == numbers)
        self.same(flags.column("a"), [True, False])
        self.same(numbers.column("a"), [(1, 1), (0, 1)])

    def test_other_things(self):
        table = Table(COLUMNS, ROWS)
        for thing in ODD_THINGS + (ROWS, list(ROWS), (COLUMNS, ROWS), repr(table), Register("r", COLUMNS)):
            self.assertFalse(table == thing)
            self.assertTrue(table != thing)
            self.assertFalse(thing == table)


class TestRegisterTable(Case):
    def test_now(self):
        table = register_table(prices())
        self.assertIsInstance(table, Table)
        self.same(table.columns(), (("item", "word"), ("cost", "number")))
        self.same(table.rows(), [(("desk", (181, 1)), (("prices", 1),))])

    def test_each_version(self):
        r = prices()
        expected = [
            [],
            [(("lamp", (170, 1)), (("prices", 0),))],
            [(("lamp", (170, 1)), (("prices", 0),)), (("desk", None), (("prices", 1),))],
            [(("lamp", (170, 1)), (("prices", 0),)), (("desk", (181, 1)), (("prices", 1),))],
            [(("desk", (181, 1)), (("prices", 1),))],
        ]
        for version, rows in enumerate(expected):
            self.same(register_table(r, version).rows(), rows)
            self.same(register_table(version=version, origin=r).rows(), rows)
        self.assertEqual(register_table(r, None), register_table(r, 4))

    def test_versions_that_are_not_there(self):
        r = prices()
        for version in (5, -1, True, False, 1.0, "1", "", (), [], {}, {1}, 10 ** 50, r):
            self.assertIs(self.refused(NoVersion, register_table, r, version).given, version)

    def test_later_changes_are_not_seen(self):
        r = prices()
        table = register_table(r)
        r.add(("mat", None), author="bo")
        self.assertEqual(len(table), 1)
        self.assertEqual(len(register_table(r)), 2)


if __name__ == "__main__":
    unittest.main()
