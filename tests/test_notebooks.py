"""Promise [16]: notebooks and their cells. What is evaluated when stands in test_evaluated.py."""

import unittest

from common import GOODS as COLUMNS, ODD_THINGS, Case, col, dear, goods, number
from liveclaims.errors import (BadChoice, BadLabel, BadName, BadRegisters, BadStep, Breaks, Cycle, InUse, TooLarge,
                               UnknownName)
from liveclaims.notebooks import Notebook
from liveclaims.registers import Register
from liveclaims.tables import Table

FIRST = ("first", 1)


def choose(label, count=2):
    """A choose that leaves the columns as they are."""
    return ("choose", label, tuple([(("first", at),) for at in range(count)]))


def state(nb):
    """All that a notebook tells."""
    names = nb.names()
    return repr((nb.cells(), names, nb.setting(), nb.evaluated(), nb.tries(), len(nb), nb.registers(),
                 [(nb.pipeline(name), nb.columns(name), nb.reads(name), nb.labels(name), nb.is_simple(name),
                   nb.is_rowwise(name), nb.value(name, setting={}).rows()) for name in names]))


class Book(Case):
    def setUp(self):
        self.r = goods("r")
        self.s = goods("s", 2)
        self.nb = Notebook([self.r, self.s])

    def unchanged(self, error, call, *given):
        before = state(self.nb)
        found = self.refused(error, call, *given)
        self.assertEqual(state(self.nb), before)
        return found


class TestExamples(Case):
    def test_value(self):
        r, nb = dear()
        self.same(nb.value("dear").rows(), [(("desk", (181, 1)), (("prices", 1),))])

    def test_equal_tables_are_not_evaluated_again(self):
        r, nb = dear()
        nb.value("dear")
        r.correct(1, ("desk", (181, 1)), author="ed")
        nb.value("dear")
        self.same(nb.evaluated(), ["dear"])

    def test_a_new_row_is(self):
        r, nb = dear()
        nb.value("dear")
        r.add(("mat", (100, 1)), author="ed")
        nb.value("dear")
        self.same(nb.evaluated(), ["dear", "dear"])

    def test_cells(self):
        r, nb = dear()
        nb.put("cheap", ("dear", (("first", 1),)))
        self.same((nb.names(), nb.reads("cheap"), nb.is_simple("cheap"), nb.is_rowwise("cheap")),
                  (["dear", "cheap"], ["dear"], True, False))

    def test_drop(self):
        r, nb = dear()
        self.same(self.refused(UnknownName, nb.drop, "prices").key, "prices")


class TestRegisters(Case):
    def test_not_a_list_of_so_many(self):
        six = [goods(name) for name in "abcdef"]
        for thing in ODD_THINGS + (six[0], tuple(six), {"a": six[0]}, six + [goods("g")], [], [None] * 7):
            if not (isinstance(thing, list) and 0 < len(thing) < 7):
                self.same(self.refused(BadRegisters, Notebook, thing).index, None)

    def test_wrong_things_in_the_list(self):
        a, b = goods("a"), goods("b")
        for thing in ODD_THINGS + (Table(COLUMNS, ()), Notebook([a])):
            if not isinstance(thing, Register):
                self.same(self.refused(BadRegisters, Notebook, [thing]).index, 0)
                self.same(self.refused(BadRegisters, Notebook, [a, b, thing, thing]).index, 2)
        self.same(self.refused(BadRegisters, Notebook, [a, a]).index, 1)
        self.same(self.refused(BadRegisters, Notebook, [a, b, goods("a", 1), None]).index, 2)
        self.same(self.refused(BadRegisters, Notebook, [a, None, a]).index, 1)
        self.same(self.refused(BadRegisters, Notebook, [a, a, None]).index, 1)

    def test_registers_are_kept_themselves(self):
        registers = [goods(name) for name in "fedcba"]
        nb = Notebook(registers=registers)
        for kept, given in zip(nb.registers(), registers):
            self.assertIs(kept, given)
        self.assertEqual(len(nb.registers()), 6)

    def test_the_list_is_copied(self):
        a, b = goods("a"), goods("b")
        given = [a]
        nb = Notebook(given)
        given.append(b)
        given[0] = None
        nb.registers().clear()
        self.assertIs(nb.registers()[0], a)
        self.assertEqual(len(nb.registers()), 1)
        self.refused(UnknownName, nb.put, "c", ("b", ()))

    def test_later_changes_are_seen(self):
        a = goods("a", 1)
        nb = Notebook([a])
        nb.put("c", ("a", (("select", ("cost",)),)))
        self.same(nb.value("c").column("cost"), [(0, 1)])
        a.add((None, (7, 1), None), author="bo")
        a.strike(0, author="bo")
        self.same(nb.value("c").rows(), [(((7, 1),), (("a", 1),))])

    def test_empty(self):
        nb = Notebook([goods("a")])
        self.same((nb.cells(), nb.names(), nb.setting(), nb.evaluated(), nb.tries(), len(nb)), ({}, [], {}, [], [], 0))


class TestPut(Book):
    def test_put(self):
        self.assertIsNone(self.nb.put("c", ("r", (FIRST,))))
        self.assertIsNone(self.nb.put(pipeline=("c", (("select", ("cost",)),)), name="a"))
        self.same(self.nb.cells(), {"c": ("r", (FIRST,)), "a": ("c", (("select", ("cost",)),))})
        self.same((self.nb.columns("c"), self.nb.columns("a")), (COLUMNS, (("cost", "number"),)))
        self.assertEqual(len(self.nb), 2)

    def test_bad_names(self):
        for name in ODD_THINGS + ("r", "s"):
            self.assertIs(self.unchanged(BadName, self.nb.put, name, ("r", ())).given, name)
        # Ahead of what is wrong with the pipeline.
        for name in (None, "r", [], "A"):
            self.assertIs(self.unchanged(BadName, self.nb.put, name, None).given, name)

    def test_what_check_raises(self):
        for thing in ODD_THINGS:
            self.same(self.unchanged(BadStep, self.nb.put, "c", thing).index, None)
            self.same(self.unchanged(BadStep, self.nb.put, "c", ("r", (FIRST, thing))).index, 1)
        self.same(self.unchanged(BadStep, self.nb.put, "c", ("r", (FIRST,) * 11)).index, None)
        self.same(self.unchanged(UnknownName, self.nb.put, "c", ("x", ())).key, "x")
        self.same(self.unchanged(UnknownName, self.nb.put, "c", ("r", (FIRST, ("union", "x")))).key, "x")
        self.nb.put("c", ("r", ()))
        self.same(self.unchanged(BadStep, self.nb.put, "c", ("r", (("first", -1),))).index, 0)

    def test_a_cell_does_not_read_itself(self):
        self.same(self.unchanged(UnknownName, self.nb.put, "c", ("c", ())).key, "c")
        self.nb.put("c", ("r", ()))
        self.same(self.unchanged(UnknownName, self.nb.put, "c", ("c", ())).key, "c")
        self.same(self.unchanged(UnknownName, self.nb.put, "c", ("r", (("union", "c"),))).key, "c")
        self.same(self.unchanged(UnknownName, self.nb.put, "c", ("r", (("choose", "x", ((), (("union", "c"),))),))).key, "c")

    def test_cycles(self):
        self.nb.put("a", ("r", ()))
        self.nb.put("b", ("a", ()))
        self.nb.put("c", ("r", (("choose", "x", ((), (("union", "b"),))),)))
        self.same(self.unchanged(Cycle, self.nb.put, "a", ("b", ())).key, "a")
        self.same(self.unchanged(Cycle, self.nb.put, "a", ("c", ())).key, "a")
        self.same(self.unchanged(Cycle, self.nb.put, "b", ("r", (("union", "c"),))).key, "b")
        self.same(self.unchanged(Cycle, self.nb.put, "a", ("r", (("choose", "y", ((), (("union", "c"),))),))).key, "a")
        self.nb.put("d", ("a", ()))
        self.nb.put("b", ("d", ()))
        self.same(self.nb.names(), ["a", "d", "b", "c"])

    def test_cycles_come_behind_check_and_ahead_of_breaks(self):
        self.nb.put("a", ("r", ()))
        self.nb.put("b", ("a", (("sort", "cost", "up"),)))
        self.same(self.unchanged(BadStep, self.nb.put, "a", ("b", (None,))).index, 0)
        self.same(self.unchanged(Cycle, self.nb.put, "a", ("b", (("select", ("item",)),))).key, "a")

    def test_breaks(self):
        self.nb.put("a", ("r", ()))
        self.nb.put("c", ("a", (("sort", "cost", "up"),)))
        self.nb.put("b", ("a", (("keep", col("sold")),)))
        self.same(self.unchanged(Breaks, self.nb.put, "a", ("r", (("select", ("item", "cost")),))).key, "b")
        self.same(self.unchanged(Breaks, self.nb.put, "a", ("r", (("select", ("item", "sold")),))).key, "c")
        self.same(self.unchanged(Breaks, self.nb.put, "a", ("r", (("select", ("item",)),))).key, "b")
        self.nb.put("a", ("r", (("set", "item", number(1)),)))
        self.same(self.nb.columns("c"), (("item", "number"), ("cost", "number"), ("sold", "flag")))

    def test_breaks_through_others(self):
        self.nb.put("a", ("r", ()))
        self.nb.put("z", ("a", (FIRST,)))
        self.nb.put("y", ("z", (("distinct",),)))
        self.nb.put("b", ("y", (("sort", "cost", "up"),)))
        self.same(self.unchanged(Breaks, self.nb.put, "a", ("r", (("select", ("item",)),))).key, "b")
        self.nb.put("c", ("r", (("choose", "x", ((), (("union", "y"),))),)))
        self.same(self.unchanged(Breaks, self.nb.put, "a", ("r", (("select", ("cost",)),))).key, "c")
        self.nb.put("x", ("a", (("keep", col("sold")),)))
        self.same(self.unchanged(Breaks, self.nb.put, "a", ("r", (("select", ("cost",)),))).key, "x")

    def test_breaks_in_the_order_as_it_would_be(self):
        self.nb.put("a", ("r", ()))
        self.nb.put("b", ("a", (("sort", "cost", "up"),)))
        self.nb.put("c", ("b", ()))
        self.nb.put("d", ("a", (("sort", "cost", "up"),)))
        self.nb.put("e", ("d", ()))
        self.same(self.nb.names(), ["a", "b", "c", "d", "e"])
        self.same(self.unchanged(Breaks, self.nb.put, "a", ("r", (("select", ("item",)),))).key, "b")
        # With b moved behind z, d comes first.
        self.nb.put("z", ("r", ()))
        self.nb.put("b", ("a", (("union", "z"), ("sort", "cost", "up"))))
        self.same(self.nb.names(), ["a", "d", "e", "z", "b", "c"])
        self.same(self.unchanged(Breaks, self.nb.put, "a", ("r", (("select", ("item",)),))).key, "d")
        # Here the cell that is put moves itself: behind zz, and so behind z, and b is the first of its readers again.
        self.nb.put("zz", ("z", ()))
        self.same(self.unchanged(Breaks, self.nb.put, "a", ("zz", (("select", ("item",)),))).key, "b")

    def test_breaks_by_union_and_join(self):
        self.nb.put("a", ("r", ()))
        self.nb.put("u", ("s", (("union", "a"),)))
        self.same(self.unchanged(Breaks, self.nb.put, "a", ("r", (("rename", "item", "thing"),))).key, "u")
        self.nb.drop("u")
        self.nb.put("j", ("s", (("select", ("item",)), ("join", "a", ("item",)))))
        self.nb.put("a", ("r", (("rename", "cost", "price"),)))
        self.same(self.nb.columns("j"), (("item", "word"), ("price", "number"), ("sold", "flag")))
        self.same(self.unchanged(Breaks, self.nb.put, "a", ("r", (("set", "item", number(1)),))).key, "j")

    def test_breaks_by_too_many_columns(self):
        self.nb.put("a", ("r", ()))
        more = tuple([("set", name, number(1)) for name in ("p1", "p2", "p3", "p4", "p5")])
        self.nb.put("b", ("a", more))
        self.same(self.unchanged(Breaks, self.nb.put, "a", ("r", (("set", "p0", number(1)),))).key, "b")

    def test_labels_of_other_cells(self):
        self.nb.put("a", ("r", (choose("x", 2), choose("y", 3))))
        self.nb.put("b", ("r", (choose("x", 2),)))
        self.same(self.unchanged(BadLabel, self.nb.put, "c", ("r", (choose("y", 2),))).label, "y")
        self.same(self.unchanged(BadLabel, self.nb.put, "c", ("r", (choose("y", 2), choose("x", 3)))).label, "x")
        self.same(self.unchanged(BadLabel, self.nb.put, "c", ("r", (choose("w", 4), choose("y", 4), choose("x", 2)))).label, "y")
        # Also of cells that do not read one another, and of the cell itself only the others count.
        self.same(self.unchanged(BadLabel, self.nb.put, "a", ("r", (choose("x", 3),))).label, "x")
        self.nb.put("a", ("r", (choose("y", 2),)))
        self.nb.put("c", ("r", (choose("y", 2), choose("x", 2))))

    def test_labels_come_behind_breaks(self):
        self.nb.put("a", ("r", ()))
        self.nb.put("b", ("a", (("sort", "cost", "up"), choose("x", 2))))
        self.same(self.unchanged(Breaks, self.nb.put, "a", ("r", (choose("x", 3), ("select", ("item",))))).key, "b")
        self.same(self.unchanged(BadLabel, self.nb.put, "a", ("r", (choose("x", 3),))).label, "x")

    def test_forty_cells(self):
        for at in range(40):
            self.nb.put("c" + str(at), ("r", (choose("x", 2),)))
        self.assertEqual(len(self.nb), 40)
        self.same(self.refused(TooLarge, self.nb.put, "d", ("r", ())).size, 41)
        self.assertEqual(len(self.nb), 40)
        self.refused(UnknownName, self.nb.pipeline, "d")
        # All other errors come ahead.
        self.same(self.refused(BadLabel, self.nb.put, "d", ("r", (choose("x", 3),))).label, "x")
        self.same(self.refused(BadStep, self.nb.put, "d", ("r", (None,))).index, 0)
        self.same(self.refused(BadName, self.nb.put, "r", ("r", ())).given, "r")
        self.nb.put("c7", ("r", (FIRST,)))
        self.same(self.nb.pipeline("c7"), ("r", (FIRST,)))
        self.nb.drop("c8")
        self.nb.put("d", ("c9", ()))
        self.same(self.refused(TooLarge, self.nb.put, "e", ("r", ())).size, 41)

    def test_columns_of_readers_follow(self):
        self.nb.put("a", ("r", ()))
        self.nb.put("b", ("a", ()))
        self.nb.put("c", ("b", (FIRST,)))
        self.nb.put("a", ("r", (("select", ("cost",)),)))
        self.same(self.nb.columns("c"), (("cost", "number"),))
        self.same(self.nb.value("c").columns(), (("cost", "number"),))
        self.nb.put("d", ("c", (("sort", "cost", "up"),)))
        self.same(self.unchanged(BadStep, self.nb.put, "d", ("c", (("sort", "item", "up"),))).index, 0)


class TestDrop(Book):
    def test_drop(self):
        self.nb.put("a", ("r", ()))
        self.nb.put("b", ("r", ()))
        self.assertIsNone(self.nb.drop("a"))
        self.same(self.nb.names(), ["b"])
        self.refused(UnknownName, self.nb.value, "a")
        self.refused(UnknownName, self.nb.drop, "a")
        self.nb.drop(name="b")
        self.assertEqual(len(self.nb), 0)

    def test_unknown_names(self):
        self.nb.put("a", ("r", ()))
        for name in ODD_THINGS + ("b", "r", "s", "aa"):
            self.assertIs(self.unchanged(UnknownName, self.nb.drop, name).key, name)

    def test_in_use(self):
        self.nb.put("a", ("r", ()))
        self.nb.put("z", ("a", ()))
        self.nb.put("m", ("r", (("choose", "x", ((), (("union", "a"),))),)))
        self.nb.put("j", ("s", (("join", "a", ("item", "cost", "sold")), ("union", "a"))))
        self.nb.put("far", ("z", ()))
        self.same(self.unchanged(InUse, self.nb.drop, "a").users, ["j", "m", "z"])
        self.same(self.unchanged(InUse, self.nb.drop, "z").users, ["far"])
        self.nb.drop("m")
        self.nb.drop("far")
        self.same(self.unchanged(InUse, self.nb.drop, "a").users, ["j", "z"])
        self.nb.drop("z")
        self.nb.drop("j")
        self.nb.drop("a")
        self.assertEqual(len(self.nb), 0)


class TestChoose(Book):
    def test_choose_and_setting(self):
        self.same(self.nb.setting(), {})
        self.nb.put("c", ("r", (choose("y", 3), choose("x", 2))))
        self.same(self.nb.setting(), {"x": 0, "y": 0})
        self.assertIsNone(self.nb.choose("y", 2))
        self.nb.choose(index=1, label="x")
        self.same(list(self.nb.setting().items()), [("x", 1), ("y", 2)])
        self.nb.choose("y", 0)
        self.same(self.nb.setting(), {"x": 1, "y": 0})

    def test_labels_of_all_cells(self):
        self.nb.put("b", ("r", (choose("z", 3),)))
        self.nb.put("a", ("b", (choose("y", 2),)))
        self.nb.choose("z", 2)
        self.same(list(self.nb.setting().items()), [("y", 0), ("z", 2)])

    def test_unknown_labels(self):
        self.nb.put("c", ("r", (choose("x", 2),)))
        for label in ODD_THINGS + ("y", "c", "r", ("x", 2)):
            self.assertIs(self.unchanged(UnknownName, self.nb.choose, label, 0).key, label)
            self.assertIs(self.unchanged(UnknownName, self.nb.choose, label, None).key, label)

    def test_wrong_indexes(self):
        self.nb.put("c", ("r", (choose("x", 2),)))
        self.nb.choose("x", 1)
        for index in (-1, 2, 3, True, False, None, 0.0, 1.0, "0", (0,), [0], {}, 10 ** 50):
            self.same(self.unchanged(BadChoice, self.nb.choose, "x", index).label, "x")
        self.same(self.nb.setting(), {"x": 1})

    def test_the_dict_belongs_to_the_caller(self):
        self.nb.put("c", ("r", (choose("x", 2),)))
        self.nb.choose("x", 1)
        self.nb.setting()["x"] = 0
        self.nb.setting().clear()
        self.same(self.nb.setting(), {"x": 1})

    def test_forgotten_when_no_cell_has_the_label(self):
        self.nb.put("c", ("r", (choose("x", 2), choose("y", 2))))
        self.nb.choose("x", 1)
        self.nb.choose("y", 1)
        self.nb.put("c", ("r", (choose("y", 2),)))
        self.same(self.nb.setting(), {"y": 1})
        self.refused(UnknownName, self.nb.choose, "x", 0)
        self.nb.put("c", ("r", (choose("x", 2), choose("y", 2))))
        self.same(self.nb.setting(), {"x": 0, "y": 1})
        self.nb.drop("c")
        self.same(self.nb.setting(), {})
        self.nb.put("c", ("r", (choose("x", 2), choose("y", 2))))
        self.same(self.nb.setting(), {"x": 0, "y": 0})

    def test_forgotten_when_the_number_changes(self):
        self.nb.put("c", ("r", (choose("x", 3),)))
        self.nb.choose("x", 1)
        self.nb.put("c", ("r", (choose("x", 2),)))
        self.same(self.nb.setting(), {"x": 0})
        self.nb.choose("x", 1)
        self.nb.put("c", ("r", (choose("x", 4),)))
        self.same(self.nb.setting(), {"x": 0})

    def test_kept_otherwise(self):
        self.nb.put("c", ("r", (choose("x", 2),)))
        self.nb.put("d", ("r", (choose("x", 2),)))
        self.nb.choose("x", 1)
        self.nb.put("e", ("r", ()))
        self.nb.put("c", ("s", (FIRST, choose("x", 2))))
        self.nb.put("c", ("r", ()))
        self.same(self.nb.setting(), {"x": 1})
        self.nb.drop("c")
        self.same(self.nb.setting(), {"x": 1})
        self.nb.put("d", ("r", (("choose", "x", ((), ())),)))
        self.same(self.nb.setting(), {"x": 1})

    def test_a_refused_put_forgets_nothing(self):
        self.nb.put("c", ("r", (choose("x", 2),)))
        self.nb.choose("x", 1)
        self.nb.put("d", ("c", ()))
        self.nb.put("e", ("d", (("sort", "cost", "up"),)))
        self.unchanged(Breaks, self.nb.put, "c", ("r", (("select", ("item",)),)))
        self.unchanged(BadStep, self.nb.put, "c", ("r", (None,)))
        self.unchanged(Cycle, self.nb.put, "c", ("d", ()))
        self.unchanged(InUse, self.nb.drop, "c")
        self.same(self.nb.setting(), {"x": 1})


class TestOrder(Book):
    def test_dependency_order(self):
        for name, source in (("m", "r"), ("b", "m"), ("z", "r"), ("a", "z"), ("c", "r"), ("d", "b")):
            self.nb.put(name, (source, ()))
        self.same(self.nb.names(), ["c", "m", "b", "d", "z", "a"])
        self.same(list(self.nb.cells()), self.nb.names())
        self.nb.put("b", ("z", ()))
        self.same(self.nb.names(), ["c", "m", "z", "a", "b", "d"])
        self.nb.drop("a")
        self.same(self.nb.names(), ["c", "m", "z", "b", "d"])

    def test_the_order_does_not_depend_on_the_puts(self):
        other = Notebook([self.r, self.s])
        for name in ("p", "k", "q"):
            self.nb.put(name, ("r", ()))
        for name in ("q", "p", "k"):
            other.put(name, ("r", ()))
        self.same(self.nb.names(), ["k", "p", "q"])
        self.same(self.nb.cells(), other.cells())
        self.assertEqual(self.nb, other)

    def test_all_alternatives_count(self):
        self.nb.put("z", ("r", ()))
        self.nb.put("a", ("r", (("choose", "x", ((), (("union", "z"),))),)))
        self.same(self.nb.names(), ["z", "a"])

    def test_told_things_belong_to_the_caller(self):
        self.nb.put("a", ("r", (choose("x"),)))
        self.nb.names().append("q")
        self.nb.cells().clear()
        self.nb.cells()["a"] = None
        self.nb.reads("a").clear()
        self.nb.labels("a").clear()
        self.nb.evaluated().append("a")
        self.nb.tries().append(None)
        self.same((self.nb.names(), self.nb.cells(), self.nb.reads("a"), self.nb.labels("a"), self.nb.evaluated(), self.nb.tries()),
                  (["a"], {"a": ("r", (choose("x"),))}, ["r"], [("x", 2)], [], []))


class TestReadsAndLabels(Book):
    def test_reads(self):
        self.nb.put("a", ("r", ()))
        self.nb.put("b", ("s", ()))
        all_three = ("item", "cost", "sold")
        self.nb.put("c", ("b", (("union", "s"), ("choose", "x", ((("union", "a"),), (FIRST, ("join", "r", all_three)))),
                                ("union", "b"), ("join", "a", all_three))))
        self.same(self.nb.reads("a"), ["r"])
        self.same(self.nb.reads("c"), ["b", "s", "a", "r"])
        self.nb.put("d", ("r", (("union", "r"),)))
        self.same(self.nb.reads(name="d"), ["r"])

    def test_labels(self):
        self.nb.put("a", ("r", (choose("z", 2), choose("m", 3))))
        self.nb.put("b", ("a", ()))
        self.nb.put("c", ("r", (choose("k", 4), ("choose", "j", ((), (("union", "b"),))))))
        self.nb.put("d", ("r", (choose("z", 2),)))
        self.nb.put("e", ("d", (("union", "c"),)))
        self.same(self.nb.labels("a"), [("m", 3), ("z", 2)])
        self.same(self.nb.labels("b"), [("m", 3), ("z", 2)])
        self.same(self.nb.labels("c"), [("j", 2), ("k", 4), ("m", 3), ("z", 2)])
        self.same(self.nb.labels(name="d"), [("z", 2)])
        self.same(self.nb.labels("e"), [("j", 2), ("k", 4), ("m", 3), ("z", 2)])

    def test_pipeline_and_columns(self):
        self.nb.put("a", ("r", (("select", ("cost",)),)))
        self.same(self.nb.pipeline(name="a"), ("r", (("select", ("cost",)),)))
        self.same(self.nb.columns(name="a"), (("cost", "number"),))

    def test_unknown_names(self):
        self.nb.put("a", ("r", ()))
        calls = (self.nb.pipeline, self.nb.columns, self.nb.reads, self.nb.labels, self.nb.value, self.nb.is_simple,
                 self.nb.is_rowwise)
        for name in ODD_THINGS + ("b", "r", "s", "aa", ("a",), ["a"], b"a"):
            for call in calls:
                self.assertIs(self.unchanged(UnknownName, call, name).key, name)
            self.assertIs(self.refused(UnknownName, self.nb.value, name, setting={"x": 9}).key, name)


class TestSimple(Book):
    CALM = (("group", ("item",), (("cost", "count", "item"), ("sold", "count", "item"))), ("distinct",),
            ("set", "more", number(1)), ("select", ("item",)), ("rename", "item", "thing"), ("sort", "item", "up"))
    MERGING = (FIRST, ("group", ("item", "cost", "sold"), (("n", "count", "item"),)), ("distinct",))
    OTHER = (("keep", col("sold")), FIRST, ("sample", 1, 2, 3), ("join", "r", ("item", "cost", "sold")), ("union", "r"))

    def simple(self, *steps, source="r"):
        self.nb.put("c", (source, steps))
        return self.nb.is_simple("c")

    def test_no_step(self):
        self.same(self.simple(), True)

    def test_single_steps(self):
        for step in self.CALM + self.MERGING + self.OTHER:
            self.same(self.simple(step), True)

    def test_behind_a_merging_step(self):
        for merging in (FIRST, ("distinct",)):
            for step in self.CALM:
                self.same(self.simple(merging, step), True)
            for step in self.OTHER:
                self.same(self.simple(merging, step), False)
        grouped = ("group", ("item", "cost", "sold"), (("n", "count", "item"),))
        self.same(self.simple(grouped, ("keep", col("sold"))), False)
        self.same(self.simple(grouped, FIRST), False)
        self.same(self.simple(grouped, ("sample", 1, 2, 3)), False)
        self.same(self.simple(grouped, ("join", "r", ("item", "cost", "sold"))), False)
        self.same(self.simple(grouped, ("select", ("item", "cost", "sold")), ("union", "r")), False)
        self.same(self.simple(grouped, ("sort", "n", "up"), ("distinct",), ("set", "m", col("n")), ("rename", "m", "k")), True)
        self.same(self.simple(grouped, ("group", ("item",), (("k", "sum", "n"),)), ("keep", ("value", True))), False)

    def test_ahead_of_a_merging_step(self):
        steps = (("keep", col("sold")), ("sample", 1, 2, 3), ("union", "s"), ("join", "r", ("item",) + ("cost", "sold")),
                 ("set", "cost", number(1)), ("sort", "cost", "down"))
        self.same(self.simple(*steps), True)
        self.same(self.simple(*steps, FIRST), True)
        self.same(self.simple(*steps, FIRST, ("sort", "cost", "up")), True)
        self.same(self.simple(*steps, FIRST, ("sort", "cost", "up"), FIRST), False)

    def test_through_other_cells(self):
        self.nb.put("a", ("r", (FIRST,)))
        self.nb.put("b", ("a", (("sort", "cost", "up"),)))
        self.same(self.simple(source="b"), True)
        self.same(self.simple(("select", ("item",)), source="b"), True)
        self.same(self.simple(("keep", col("sold")), source="b"), False)
        self.same(self.simple(FIRST, source="b"), False)
        self.nb.put("d", ("c", ()))
        self.same(self.nb.is_simple("d"), False)
        self.nb.drop("d")
        # What enters by a union or join has that as its next step.
        self.same(self.simple(("union", "b")), False)
        self.same(self.simple(("union", "a"), ("sort", "cost", "up")), False)
        self.same(self.simple(("join", "a", ("item", "cost", "sold"))), False)
        self.same(self.simple(("union", "b"), source="b"), False)
        self.nb.put("k", ("s", (("keep", col("sold")),)))
        self.same(self.simple(("union", "k"), FIRST), True)
        self.same(self.simple(("join", "k", ("item", "cost", "sold")), ("distinct",)), True)
        self.same(self.simple(FIRST, ("union", "k")), False)

    def test_under_the_setting_in_use(self):
        self.nb.put("a", ("r", (("choose", "x", ((), (FIRST,))),)))
        self.nb.put("c", ("a", (("keep", col("sold")),)))
        self.nb.put("d", ("r", (("choose", "y", ((), (("union", "a"),))),)))
        self.same((self.nb.is_simple("a"), self.nb.is_simple("c"), self.nb.is_simple("d")), (True, True, True))
        self.nb.choose("x", 1)
        self.same((self.nb.is_simple("a"), self.nb.is_simple("c"), self.nb.is_simple("d")), (True, False, True))
        self.nb.choose("y", 1)
        self.same((self.nb.is_simple(name="a"), self.nb.is_simple("c"), self.nb.is_simple("d")), (True, False, False))
        self.nb.choose("x", 0)
        self.same((self.nb.is_simple("c"), self.nb.is_simple("d")), (True, True))

    def test_many_paths(self):
        name = "r"
        for at in range(39):
            self.nb.put("p" + str(at), (name, (("join", name, ("item", "cost", "sold")),)))
            name = "p" + str(at)
        self.same(self.nb.is_simple(name), True)
        self.nb.put("p0", ("r", (("distinct",),)))
        self.same(self.nb.is_simple(name), False)


class TestRowwise(Book):
    def rowwise(self, *steps, source="r"):
        self.nb.put("c", (source, steps))
        return self.nb.is_rowwise("c")

    def test_steps(self):
        self.same(self.rowwise(), True)
        for step in (("keep", col("sold")), ("set", "more", number(1)), ("select", ("item",)), ("rename", "item", "thing"),
                     ("sort", "item", "up"), ("sample", 1, 2, 3)):
            self.same(self.rowwise(step), True)
        for step in (FIRST, ("distinct",), ("union", "r"), ("union", "s"), ("join", "r", ("item", "cost", "sold")),
                     ("group", ("item",), (("n", "count", "item"),)), ("first", 1000)):
            self.same(self.rowwise(step), False)
            self.same(self.rowwise(("keep", col("sold")), step), False)

    def test_through_other_cells(self):
        self.nb.put("a", ("s", (("keep", col("sold")), ("sample", 1, 2, 3))))
        self.nb.put("b", ("a", (("sort", "cost", "up"),)))
        self.same(self.rowwise(("set", "cost", number(1)), source="b"), True)
        self.same(self.rowwise(FIRST, source="b"), False)
        self.nb.put("a", ("s", (FIRST,)))
        self.same(self.rowwise(("set", "cost", number(1)), source="b"), False)

    def test_under_the_setting_in_use(self):
        self.nb.put("a", ("r", (("choose", "x", ((), (FIRST,))),)))
        self.nb.put("c", ("a", (("choose", "y", ((("sort", "cost", "up"),), (("union", "s"),))),)))
        self.same((self.nb.is_rowwise("a"), self.nb.is_rowwise("c")), (True, True))
        self.nb.choose("x", 1)
        self.same((self.nb.is_rowwise("a"), self.nb.is_rowwise("c")), (False, False))
        self.nb.choose("x", 0)
        self.nb.choose("y", 1)
        self.same((self.nb.is_rowwise("a"), self.nb.is_rowwise(name="c")), (True, False))


class TestTwinAndEquality(Book):
    def test_twin(self):
        self.nb.put("a", ("r", (choose("x"),)))
        self.nb.put("b", ("a", ()))
        self.nb.choose("x", 1)
        twin = self.nb.twin()
        self.assertIsInstance(twin, Notebook)
        self.assertEqual(twin, self.nb)
        self.same((twin.cells(), twin.setting(), twin.columns("b")), (self.nb.cells(), self.nb.setting(), self.nb.columns("b")))
        self.assertIs(twin.registers()[0], self.r)
        self.assertIs(twin.registers()[1], self.s)

    def test_a_twin_is_independent(self):
        self.nb.put("a", ("r", (choose("x"),)))
        before = state(self.nb)
        twin = self.nb.twin()
        twin.choose("x", 1)
        twin.put("b", ("a", ()))
        twin.value("b")
        twin.put("a", ("s", ()))
        twin.drop("b")
        self.assertEqual(state(self.nb), before)
        told = state(twin)
        self.nb.put("q", ("r", ()))
        self.nb.choose("x", 1)
        self.nb.value("q")
        self.assertEqual(state(twin), told)

    def test_a_twin_sees_the_registers(self):
        self.nb.put("a", ("r", ()))
        twin = self.nb.twin()
        self.r.strike(0, author="bo")
        self.assertEqual(twin.value("a"), self.nb.value("a"))
        self.assertEqual(len(twin.value("a")), 2)

    def test_equal(self):
        other = Notebook([self.r.twin(), self.s.twin()])
        self.assertTrue(self.nb == other)
        for nb in (self.nb, other):
            nb.put("a", ("r", (choose("x"),)))
        self.assertTrue(self.nb == other)
        self.assertFalse(self.nb != other)
        self.nb.value("a")
        self.nb.choose("x", 0)
        self.assertTrue(self.nb == other)

    def test_unequal(self):
        def made(registers=None, pipeline=("r", (choose("x"),)), index=0, name="a"):
            nb = Notebook(registers or [self.r, self.s])
            nb.put(name, pipeline)
            if "x" in nb.setting():
                nb.choose("x", index)
            return nb
        nb = made()
        self.assertTrue(nb == made())
        changed = self.r.twin()
        changed.add((None, None, None), author="bo")
        corrected = self.r.twin()
        corrected.correct(0, corrected.rows()[0][1], author="bo")
        others = (made([self.s, self.r]), made([self.r]), made([changed, self.s]), made([corrected, self.s]), made(index=1),
                  made(name="b"), made(pipeline=("r", ())), made(pipeline=("s", (choose("x"),))), Notebook([self.r, self.s]))
        for other in others:
            self.assertFalse(nb == other)
            self.assertTrue(nb != other)

    def test_equal_to_nothing_else(self):
        for thing in ODD_THINGS + ([self.r, self.s], self.r, self.nb.cells()):
            self.assertFalse(self.nb == thing)
            self.assertTrue(self.nb != thing)
            self.assertFalse(thing == self.nb)


if __name__ == "__main__":
    unittest.main()
