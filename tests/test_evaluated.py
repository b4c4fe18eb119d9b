"""Promises [16], [5] (b) and (c): what a cell's value is, and when it is evaluated again."""

import itertools
import random
import unittest

import reference
from common import GOODS as COLUMNS, Case, col, goods
from liveclaims.claims import truth
from liveclaims.errors import BadChoice, BadLabel, BadStep, Breaks, Cycle, InUse, TooLarge, UnknownName
from liveclaims.notebooks import Notebook
from liveclaims.registers import Register
from liveclaims.running import run
from liveclaims.steps import check, reads_of, resolved
from liveclaims.tables import register_table

FIRST = ("first", 1)
UP = ("sort", "cost", "up")


def direct(nb, name, setting):
    """The cell's Table, evaluated from the registers without the notebook."""
    cells = nb.cells()
    tables = {origin.name(): register_table(origin) for origin in nb.registers()}
    plain = resolved(cells[name], setting)
    for other in reads_of(plain):
        if other in cells:
            tables[other] = direct(nb, other, setting)
    return run(tables, plain)


class Book(Case):
    def setUp(self):
        self.r = goods("r")
        self.s = goods("s", 2)
        self.nb = Notebook([self.r, self.s])

    def listed(self, *names):
        """Just these were evaluated since the last look."""
        found = self.nb.evaluated()
        self.same(found[self.seen:], list(names))
        self.seen = len(found)

    seen = 0


class TestValue(Book):
    def test_values_of_cells(self):
        self.nb.put("a", ("r", (("keep", col("sold")),)))
        self.nb.put("b", ("a", (("union", "s"), ("select", ("cost",)))))
        self.same(self.nb.value("b").rows(), [
            (((0, 1),), (("r", 0),)), (((2, 1),), (("r", 2),)), (((0, 1),), (("s", 0),)), (((1, 1),), (("s", 1),))])

    def test_under_settings(self):
        self.nb.put("a", ("r", (("choose", "x", ((), (FIRST,), (("first", 2),))),)))
        self.nb.put("b", ("a", (("choose", "y", ((), (("union", "s"),))),)))
        self.nb.choose("x", 1)
        sizes = {(0, 0): 3, (1, 0): 1, (2, 0): 2, (0, 1): 5, (1, 1): 3, (2, 1): 4}
        for (x, y), size in sizes.items():
            self.assertEqual(len(self.nb.value("b", setting={"x": x, "y": y})), size)
            self.assertEqual(len(self.nb.value(setting={"y": y, "x": x, "q": None}, name="b")), size)
        # A label that a setting lacks has the index 0, whatever is in use.
        self.assertEqual(len(self.nb.value("b", setting={})), 3)
        self.assertEqual(len(self.nb.value("b", setting={"y": 1})), 5)
        self.assertEqual(len(self.nb.value("b")), 1)
        self.assertEqual(len(self.nb.value("b", setting=None)), 1)
        self.assertRaises(TypeError, self.nb.value, "b", {})

    def test_a_setting_is_not_modified(self):
        self.nb.put("a", ("r", (("choose", "x", ((), (FIRST,))),)))
        setting = {"y": 3, "x": 1}
        self.nb.value("a", setting=setting)
        self.assertEqual(setting, {"y": 3, "x": 1})

    def test_bad_choice(self):
        self.nb.put("a", ("r", (("choose", "m", ((), (FIRST,))),)))
        self.nb.put("b", ("r", (("choose", "z", ((), (("union", "a"),))), ("choose", "y", ((), (), ())))))
        for index in (-1, 2, True, False, None, 0.0, "0", (0,), [0], {}):
            self.same(self.refused(BadChoice, self.nb.value, "b", setting={"z": index}).label, "z")
            # Also a label of a cell that is not read under the setting.
            self.same(self.refused(BadChoice, self.nb.value, "b", setting={"m": index}).label, "m")
        self.same(self.refused(BadChoice, self.nb.value, "b", setting={"z": 2, "y": 3}).label, "y")
        self.same(self.refused(BadChoice, self.nb.value, "b", setting={"z": 2, "y": 3, "m": 2}).label, "m")
        self.same(self.refused(BadChoice, self.nb.value, "b", setting={"z": 2, "y": 2}).label, "z")
        self.assertEqual(len(self.nb.value("a", setting={"z": 2, "y": 3})), 3)
        self.same(self.nb.evaluated(), [])

    def test_bad_choice_comes_ahead_of_the_size(self):
        big = goods("r", 300)
        nb = Notebook([big])
        nb.put("a", ("r", (("union", "r"),)))
        nb.put("b", ("a", (("union", "a"), ("choose", "x", ((), ())))))
        self.same(self.refused(BadChoice, nb.value, "b", setting={"x": 2}).label, "x")
        self.same(self.refused(TooLarge, nb.value, "b", setting={"x": 1}).size, 1200)
        self.same(self.refused(TooLarge, nb.value, "b").size, 1200)

    def test_tables_stay_as_they_were(self):
        self.nb.put("a", ("r", ()))
        table = self.nb.value("a")
        rows = table.rows()
        table.rows().clear()
        self.r.strike(0, author="bo")
        self.nb.value("a")
        self.same(table.rows(), rows)


class TestEvaluated(Book):
    def test_once(self):
        self.nb.put("a", ("r", ()))
        self.listed()
        for turn in range(3):
            self.nb.value("a")
        self.listed("a")

    def test_in_dependency_order(self):
        self.nb.put("m", ("r", ()))
        self.nb.put("z", ("r", ()))
        self.nb.put("b", ("z", (("union", "m"),)))
        self.nb.put("a", ("r", (("union", "b"),)))
        self.nb.put("other", ("r", ()))
        self.same(self.nb.names(), ["m", "other", "z", "b", "a"])
        self.nb.value("a")
        self.listed("m", "z", "b", "a")
        self.nb.value("b")
        self.listed()
        self.nb.value("other")
        self.listed("other")

    def test_a_part_of_the_cells_first(self):
        self.nb.put("z", ("r", ()))
        self.nb.put("b", ("z", ()))
        self.nb.put("a", ("b", (("union", "z"),)))
        self.nb.value("b")
        self.listed("z", "b")
        self.nb.value("a")
        self.listed("a")

    def test_changed_registers(self):
        self.nb.put("a", ("r", ()))
        self.nb.put("b", ("s", ()))
        self.nb.put("c", ("a", (("union", "b"),)))
        self.nb.value("c")
        self.listed("a", "b", "c")
        self.s.add((None, None, None), author="bo")
        self.nb.value("c")
        self.listed("b", "c")
        self.r.strike(0, author="bo")
        self.nb.value("a")
        self.listed("a")
        self.nb.value("c")
        self.listed("c")

    def test_equal_tables(self):
        self.nb.put("a", ("r", (("keep", col("sold")),)))
        self.nb.put("b", ("a", ()))
        self.nb.value("b")
        self.listed("a", "b")
        # The register's Table is equal again.
        number_of = self.r.add((None, None, None), author="bo")
        self.r.strike(number_of, author="bo")
        self.nb.value("b")
        self.listed()
        # The register's Table is another, the value of a is equal, so b is not evaluated.
        self.r.add(("x", (9, 1), False), author="bo")
        self.nb.value("b")
        self.listed("a")
        # Equal values of other rows are not an equal table.
        self.r.strike(0, author="bo")
        self.r.add(("a", (0, 1), True), author="bo")
        self.nb.value("b")
        self.listed("a", "b")

    def test_only_the_last_evaluation_is_kept(self):
        self.nb.put("a", ("r", (("choose", "x", ((), (FIRST,))),)))
        self.nb.value("a")
        self.nb.choose("x", 1)
        self.nb.value("a")
        self.nb.choose("x", 0)
        self.nb.value("a")
        self.listed("a", "a", "a")
        self.nb.value("a")
        self.listed()

    def test_another_resolved_pipeline(self):
        self.nb.put("a", ("r", (UP,)))
        self.nb.value("a")
        self.listed("a")
        self.nb.put("a", ("r", (UP, ("first", 1000))))
        self.listed()
        self.nb.value("a")
        self.listed("a")
        self.nb.put("b", ("a", ()))
        self.nb.value("b")
        self.listed("b")
        # Another pipeline with an equal value: the readers are not evaluated again.
        self.nb.put("a", ("r", (UP,)))
        self.nb.value("b")
        self.listed("a")

    def test_an_equal_resolved_pipeline(self):
        self.nb.put("a", ("r", (("choose", "x", ((), (UP,), (UP,))),)))
        self.nb.choose("x", 1)
        self.nb.value("a")
        self.listed("a")
        self.nb.choose("x", 2)
        self.nb.value("a")
        self.listed()
        # Written otherwise, but resolved alike.
        self.nb.put("a", ("r", (UP,)))
        self.nb.value("a")
        self.listed()
        self.nb.put("a", ("r", (("choose", "y", ((UP,), ())),)))
        self.nb.value("a")
        self.listed()

    def test_put_anew_alike(self):
        self.nb.put("a", ("r", (UP,)))
        self.nb.put("b", ("a", ()))
        self.nb.value("b")
        self.listed("a", "b")
        self.nb.put("a", ("r", (UP,)))
        self.nb.value("b")
        self.listed()
        self.nb.put("a", ("r", (FIRST,)))
        self.nb.put("a", ("r", (UP,)))
        self.nb.value("b")
        self.listed()

    def test_dropped_and_put_again(self):
        self.nb.put("a", ("r", (UP,)))
        self.nb.put("b", ("r", ()))
        self.nb.value("a")
        self.nb.value("b")
        self.listed("a", "b")
        self.nb.drop("a")
        self.same(self.nb.evaluated(), ["a", "b"])
        self.nb.put("a", ("r", (UP,)))
        self.nb.value("a")
        self.nb.value("b")
        self.listed("a")

    def test_a_refused_drop_forgets_nothing(self):
        self.nb.put("a", ("r", (UP,)))
        self.nb.put("b", ("a", ()))
        self.nb.value("b")
        self.listed("a", "b")
        self.refused(InUse, self.nb.drop, "a")
        self.nb.value("b")
        self.listed()

    def test_alternatives_that_are_not_chosen(self):
        self.nb.put("z", ("r", (UP,)))
        self.nb.put("y", ("s", ()))
        self.nb.put("a", ("r", (("choose", "x", ((), (("union", "z"),), (("union", "y"),))),)))
        self.nb.put("b", ("a", ()))
        self.nb.value("b")
        self.listed("a", "b")
        self.nb.choose("x", 1)
        self.nb.value("b")
        self.listed("z", "a", "b")
        self.nb.choose("x", 2)
        # z is not read under this setting, so a change of it does not matter.
        self.nb.put("z", ("r", (FIRST,)))
        self.nb.value("b")
        self.listed("y", "a", "b")
        self.nb.value("b")
        self.listed()

    def test_a_cell_of_two_paths_is_looked_at_once(self):
        self.nb.put("a", ("r", ()))
        self.nb.put("b", ("a", (FIRST,)))
        self.nb.put("c", ("a", (UP,)))
        self.nb.put("d", ("b", (("union", "c"), ("union", "a"))))
        self.nb.value("d")
        self.listed("a", "b", "c", "d")

    def test_a_setting_keeps_and_lists_nothing(self):
        self.nb.put("a", ("r", (("choose", "x", ((), (FIRST,))),)))
        self.nb.value("a", setting={})
        self.nb.value("a", setting={"x": 1})
        self.listed()
        self.nb.value("a")
        self.listed("a")
        self.nb.value("a", setting={"x": 1})
        self.nb.value("a")
        self.listed()

    def test_unknown_names_list_nothing(self):
        self.refused(UnknownName, self.nb.value, "a")
        self.listed()

    def test_order_of_the_registers_tables(self):
        self.nb.put("a", ("s", (("union", "r"),)))
        self.nb.value("a")
        self.r.add((None, None, None), author="bo")
        self.nb.value("a")
        self.s.add((None, None, None), author="bo")
        self.nb.value("a")
        self.listed("a", "a", "a")

    def test_twins(self):
        self.nb.put("a", ("r", ()))
        self.nb.put("b", ("a", ()))
        self.nb.value("a")
        twin = self.nb.twin()
        self.same(twin.evaluated(), [])
        twin.value("b")
        self.same(twin.evaluated(), ["b"])
        self.same(self.nb.evaluated(), ["a"])
        self.nb.value("b")
        self.same(self.nb.evaluated(), ["a", "b"])
        self.nb.drop("b")
        self.nb.put("b", ("a", ()))
        twin.value("b")
        self.same(twin.evaluated(), ["b"])


class TestTooLarge(Case):
    def setUp(self):
        self.r = goods("r", 200)
        self.s = goods("s", 1)
        self.nb = Notebook([self.r, self.s])
        self.nb.put("a", ("r", (("union", "r"),)))
        self.nb.put("b", ("a", (("union", "a"), ("choose", "x", ((), (("union", "a"),))))))
        self.nb.put("c", ("b", ()))

    def test_listed_but_not_kept(self):
        self.assertEqual(len(self.nb.value("c")), 800)
        self.same(self.nb.evaluated(), ["a", "b", "c"])
        self.nb.choose("x", 1)
        for turn in (1, 2):
            self.same(self.refused(TooLarge, self.nb.value, "c").size, 1200)
        self.same(self.nb.evaluated(), ["a", "b", "c", "b", "b"])
        # The earlier kept one stays.
        self.nb.choose("x", 0)
        self.nb.value("c")
        self.same(self.nb.evaluated(), ["a", "b", "c", "b", "b"])

    def test_what_comes_ahead_is_kept(self):
        self.nb.choose("x", 1)
        self.refused(TooLarge, self.nb.value, "c")
        self.same(self.nb.evaluated(), ["a", "b"])
        self.nb.value("a")
        self.same(self.nb.evaluated(), ["a", "b"])

    def test_the_first_in_the_order(self):
        self.nb.put("big", ("r", (("union", "r"), ("union", "r"), ("union", "r"), ("union", "r"), ("union", "r"))))
        self.nb.put("d", ("c", (("union", "big"),)))
        self.nb.choose("x", 1)
        self.same(self.refused(TooLarge, self.nb.value, "d").size, 1200)
        self.same(self.nb.evaluated(), ["a", "b"])
        self.same(self.refused(TooLarge, self.nb.value, "d", setting={"x": 1}).size, 1200)
        for at in range(1):
            self.r.strike(at, author="bo")
        self.nb.put("aa", ("r", (("union", "r"), ("union", "r"), ("union", "r"), ("union", "r"), ("union", "r"))))
        self.nb.put("d", ("c", (("union", "aa"),)))
        self.same(self.refused(TooLarge, self.nb.value, "d").size, 1194)
        self.same(self.refused(TooLarge, self.nb.value, "d", setting={"x": 0}).size, 1194)

    def test_under_a_setting(self):
        self.same(self.refused(TooLarge, self.nb.value, "c", setting={"x": 1}).size, 1200)
        self.same(self.nb.evaluated(), [])
        self.assertEqual(len(self.nb.value("c", setting={"x": 0})), 800)

    def test_by_a_join(self):
        # Of 32 rows of one item each finds 32 partners.
        r = Register("r", (("item", "word"), ("cost", "number")))
        s = Register("s", (("item", "word"), ("size", "number")))
        for at in range(32):
            r.add(("a", (at, 1)), author="bo")
            s.add(("a", (at, 1)), author="bo")
        nb = Notebook([r, s])
        nb.put("b", ("r", (("join", "s", ("item",)),)))
        nb.put("c", ("b", (("first", 1),)))
        claim = ("least", ("count", "c", "item"), (1, 1))
        for turn in (1, 2):
            self.same(self.refused(TooLarge, nb.value, "c").size, 1024)
            self.same(self.refused(TooLarge, truth, nb, claim).size, 1024)
        self.same((nb.evaluated(), nb.tries()), (["b", "b", "b", "b"], [(claim, ())]))
        r.strike(5, author="bo")
        self.same(truth(nb, claim), True)
        self.assertEqual(len(nb.value("b")), 31 * 32)
        self.same(nb.evaluated(), ["b", "b", "b", "b", "b", "c"])
        # Too large again: what was kept of both stays.
        number_of = r.add(("a", None), author="bo")
        self.refused(TooLarge, nb.value, "c")
        r.strike(number_of, author="bo")
        self.same(truth(nb, claim), True)
        self.same(nb.evaluated(), ["b", "b", "b", "b", "b", "c", "b"])
        self.same(nb.tries(), [(claim, ())])

    def test_smaller_again(self):
        self.nb.choose("x", 1)
        self.refused(TooLarge, self.nb.value, "c")
        for at in range(100):
            self.r.strike(at, author="bo")
        self.assertEqual(len(self.nb.value("c")), 600)


class TestSimple(Case):
    """Promise [5] (b)."""

    def strike_others(self, chance, nb, name):
        table = nb.value(name)
        needed = table.lineage()
        for origin in nb.registers():
            for row, values in origin.rows():
                if (origin.name(), row) not in needed and chance.random() < 0.6:
                    origin.strike(row, author="bo")
                    if chance.random() < 0.3:
                        self.assertEqual(nb.value(name), table)
        self.assertEqual(nb.value(name), table)

    def test_rows_that_are_not_in_the_lineage(self):
        chance = random.Random(21)
        simple = 0
        for turn in range(250):
            nb = some_notebook(chance, rows=8)
            for name in nb.names():
                if nb.is_simple(name):
                    simple += 1
                    self.strike_others(chance, nb, name)
        self.assertGreater(simple, 300)

    def test_plain_cases(self):
        r = Register("r", COLUMNS)
        for cost in (5, 3, 9, 1, 7):
            r.add(("a", (cost, 1), cost > 4), author="bo")
        nb = Notebook([r])
        nb.put("c", ("r", (("keep", col("sold")), ("sort", "cost", "up"), ("first", 2), ("sort", "cost", "down"))))
        self.same(nb.is_simple("c"), True)
        table = nb.value("c")
        self.same(table.lineage(), (("r", 0), ("r", 4)))
        for at in (1, 2, 3):
            r.strike(at, author="bo")
            self.assertEqual(nb.value("c"), table)
        r.strike(0, author="bo")
        self.assertNotEqual(nb.value("c"), table)


def some_register(chance, name, columns, rows):
    found = Register(name, columns)
    for at in range(chance.randint(0, rows)):
        found.add(reference.some_row(chance, columns), author="bo")
    return found


def some_registers(chance, rows):
    shape = reference.some_columns(chance)
    shapes = {"r": shape, "s": shape if chance.random() < 0.6 else reference.some_columns(chance)}
    return [some_register(chance, name, shapes[name], rows) for name in shapes]


def put_some(chance, nb, name):
    tables = {origin.name(): origin.columns() for origin in nb.registers()}
    tables.update({cell: nb.columns(cell) for cell in nb.names() if cell != name})
    numbers = {label: number for cell in nb.names() for label, number in nb.labels(cell)}
    pipeline = reference.some_pipeline(chance, tables, check, (BadStep, UnknownName), numbers, most=4)
    try:
        nb.put(name, pipeline)
    except (Cycle, Breaks, BadLabel):
        return False
    return True


def some_notebook(chance, rows, cells=5):
    nb = Notebook(some_registers(chance, rows))
    for name in "abcdefg"[:cells]:
        put_some(chance, nb, name)
    return nb


class TestHistories(Case):
    """Promise [5] (c)."""

    def outcome(self, call):
        try:
            return call().rows()
        except TooLarge as error:
            return error.size

    def check_values(self, nb):
        """Each value is that of a direct evaluation, and those in use are evaluated only as they must be."""
        for name in nb.names():
            expected = self.outcome(lambda: direct_in_order(nb, name, nb.setting()))
            told = self.model_told(nb, name)
            before = len(nb.evaluated())
            self.same(self.outcome(lambda: nb.value(name)), expected)
            self.same(nb.evaluated()[before:], told)
            labels = nb.labels(name)
            indexes = list(itertools.product(*[range(count) for label, count in labels]))
            for held in indexes[:4]:
                setting = {label: index for (label, count), index in zip(labels, held)}
                before = nb.evaluated()
                self.same(self.outcome(lambda: nb.value(name, setting=setting)),
                          self.outcome(lambda: direct_in_order(nb, name, setting)))
                self.same(nb.evaluated(), before)

    def model_told(self, nb, name):
        """The names that value(name) should list, by a second record of what is kept."""
        cells, setting, listed = nb.cells(), nb.setting(), []
        wanted = [name]
        for cell in reversed(nb.names()):
            if cell in wanted:
                wanted += [other for other in reads_of(resolved(cells[cell], setting)) if other in cells]
        tables = {origin.name(): register_table(origin) for origin in nb.registers()}
        for cell in nb.names():
            if cell not in wanted:
                continue
            plain = resolved(cells[cell], setting)
            inputs = [(other, tables[other]) for other in reads_of(plain)]
            if self.kept.get(cell) is None or self.kept[cell][:2] != (plain, inputs):
                listed.append(cell)
                try:
                    self.kept[cell] = (plain, inputs, run(tables, plain))
                except TooLarge:
                    return listed
            tables[cell] = self.kept[cell][2]
        return listed

    def change(self, chance, nb):
        deed = chance.choice(("add", "correct", "strike", "put", "put", "drop", "choose", "choose", "add"))
        origin = chance.choice(nb.registers())
        numbers = [row for row, values in origin.rows()]
        if deed == "add":
            origin.add(reference.some_row(chance, origin.columns()), author="bo")
        elif deed == "correct" and numbers:
            origin.correct(chance.choice(numbers), reference.some_row(chance, origin.columns()), author="bo")
        elif deed == "strike" and numbers:
            origin.strike(chance.choice(numbers), author="bo")
        elif deed == "put":
            put_some(chance, nb, chance.choice("abcdefg"))
        elif deed == "drop" and nb.names():
            self.try_drop(nb, chance.choice(nb.names()))
        elif deed == "choose" and nb.setting():
            label = chance.choice(list(nb.setting()))
            count = [number for cell in nb.names() for held, number in nb.labels(cell) if held == label][0]
            nb.choose(label, chance.randrange(count))

    def try_drop(self, nb, name):
        try:
            nb.drop(name)
            self.kept[name] = None
        except InUse:
            pass

    def test_long_histories(self):
        for seed in range(12):
            chance = random.Random(100 + seed)
            self.kept = {}
            nb = Notebook(some_registers(chance, 6))
            for turn in range(60):
                self.change(chance, nb)
                if chance.random() < 0.5:
                    self.check_values(nb)
                self.assertEqual(nb.twin(), nb)
            self.check_values(nb)


def direct_in_order(nb, name, setting):
    """As direct, with the cells in dependency order, so that the first one that is too large is told."""
    cells = nb.cells()
    wanted = [name]
    for cell in reversed(nb.names()):
        if cell in wanted:
            wanted += reads_of(resolved(cells[cell], setting))
    for cell in nb.names():
        if cell in wanted:
            direct(nb, cell, setting)
    return direct(nb, name, setting)


if __name__ == "__main__":
    unittest.main()
