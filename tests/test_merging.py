"""Promises [30] and [31]: merging cells and tries, and loading cells."""

import itertools
import random
import unittest

import reference
from common import GOODS, ODD_THINGS, Case, goods
from liveclaims.choices import decisive, robustness
from liveclaims.claims import truth
from liveclaims.errors import BadLabel, BadName, BadRegisters, BadStep, Cycle, TooLarge, UnknownName
from liveclaims.merging import load, merged, merged_tries
from liveclaims.notebooks import Notebook
from liveclaims.steps import check

ONE = ("r", (("first", 1),))
TWO = ("r", (("first", 2),))
THREE = ("r", (("first", 3),))


class TestMerged(Case):
    def test_example(self):
        self.same(merged({"a": ("r", ())}, {"a": ONE}, {"a": ("r", ()), "b": ("r", ())}),
                  ({"a": ONE, "b": ("r", ())}, []))
        self.same(merged(theirs={"a": ONE}, ours={}, base={}), ({"a": ONE}, []))

    def test_every_combination(self):
        # What stands in base, ours and theirs, what is taken, or a conflict.
        for base, ours, theirs in itertools.product((None, ONE, TWO, THREE), repeat=3):
            if ours == theirs:
                taken = ours
            elif theirs == base:
                taken = ours
            elif ours == base:
                taken = theirs
            else:
                taken = "conflict"
            sides = [{} if side is None else {"a": side} for side in (base, ours, theirs)]
            if taken == "conflict":
                expected = ({}, ["a"])
            else:
                expected = ({} if taken is None else {"a": taken}, [])
            self.same(merged(*sides), expected)

    def test_named_cases(self):
        self.same(merged({"a": ONE}, {"a": TWO}, {"a": TWO}), ({"a": TWO}, []))
        self.same(merged({"a": ONE}, {"a": TWO}, {"a": THREE}), ({}, ["a"]))
        self.same(merged({"a": ONE}, {}, {"a": ONE}), ({}, []))
        self.same(merged({"a": ONE}, {}, {"a": TWO}), ({}, ["a"]))
        self.same(merged({"a": ONE}, {"a": TWO}, {}), ({}, ["a"]))
        self.same(merged({"a": ONE}, {}, {}), ({}, []))
        self.same(merged({}, {"a": ONE}, {"a": TWO}), ({}, ["a"]))
        self.same(merged({}, {}, {}), ({}, []))

    def test_true_is_not_one(self):
        true = ("r", (("first", True),))
        # Ours is changed, so theirs, which is as base, does not count.
        self.same(merged({"a": ONE}, {"a": true}, {"a": ONE}), ({"a": true}, []))
        self.same(merged({"a": ONE}, {"a": ONE}, {"a": true}), ({"a": true}, []))
        self.same(merged({"a": TWO}, {"a": ONE}, {"a": true}), ({}, ["a"]))
        self.same(merged({"a": true}, {"a": ONE}, {"a": ONE}), ({"a": ONE}, []))
        zero, false = ("r", (("first", 0),)), ("r", (("first", False),))
        self.same(merged({"a": TWO}, {"a": zero}, {"a": false}), ({}, ["a"]))
        self.same(merged({"a": zero}, {"a": false}, {"a": zero}), ({"a": false}, []))
        deep = ("r", (("choose", "x", ((), (("keep", ("value", True)),))),))
        one = ("r", (("choose", "x", ((), (("keep", ("value", 1)),))),))
        self.same(merged({}, {"a": deep}, {"a": one}), ({}, ["a"]))
        self.same(merged({"a": one}, {"a": deep}, {"a": one}), ({"a": deep}, []))
        self.same(merged({"a": deep}, {"a": deep}, {"a": deep}), ({"a": deep}, []))

    def test_order(self):
        names = ("c", "a", "b2", "b", "z", "b10")
        base = {name: ONE for name in names[:2]}
        for order in itertools.permutations(names):
            ours = {name: TWO for name in order}
            cells, conflicts = merged(base, ours, {name: ONE for name in reversed(order)})
            self.same((list(cells), conflicts), (["a", "c"], ["b", "b10", "b2", "z"]))
            cells, conflicts = merged({}, ours, {})
            self.same((list(cells), conflicts), (sorted(names), []))

    def test_nothing_is_modified(self):
        base, ours, theirs = {"a": ONE, "b": ONE}, {"a": TWO, "c": ONE}, {"a": THREE, "b": ONE, "d": ONE}
        before = repr((base, ours, theirs))
        cells, conflicts = merged(base, ours, theirs)
        cells.clear()
        conflicts.clear()
        self.same(repr((base, ours, theirs)), before)
        self.same(merged(base, ours, theirs), ({"c": ONE, "d": ONE}, ["a"]))

    def test_cells_of_notebooks(self):
        r = goods("r", 3)
        base = Notebook([r])
        base.put("a", ("r", ()))
        ours, theirs = base.twin(), base.twin()
        ours.put("b", ("a", (("first", 1),)))
        theirs.drop("a")
        cells, conflicts = merged(base.cells(), ours.cells(), theirs.cells())
        self.same((cells, conflicts), ({"b": ("a", (("first", 1),))}, []))
        # One side drops a cell that the other side reads; load tells.
        self.same(self.refused(UnknownName, load, [r], cells).key, "a")


class TestMergedTries(Case):
    def test_plain(self):
        x, y, z = [(("rises", "c", name), ()) for name in ("x", "y", "z")]
        self.same(merged_tries([x, y], [y, z]), [x, y, z])
        self.same(merged_tries([], [z, x]), [z, x])
        self.same(merged_tries([y], []), [y])
        self.same(merged_tries([], []), [])
        self.same(merged_tries(theirs=[z, y, x], ours=[y]), [y, z, x])

    def test_settings(self):
        claim = ("rises", "c", "cost")
        ours = [(claim, (("x", 0),)), (claim, (("x", 1),))]
        theirs = [(claim, (("x", 2),)), (claim, (("x", 1),)), (claim, ())]
        self.same(merged_tries(ours, theirs), ours + [(claim, (("x", 2),)), (claim, ())])

    def test_of_notebooks(self):
        base = Notebook([goods("r", 3)])
        base.put("c", ("r", (("choose", "x", ((), (("first", 1),), (("first", 2),))),)))
        claim, other = ("rises", "c", "cost"), ("least", ("count", "c", "cost"), (2, 1))
        truth(base, claim)
        ours, theirs = base.twin(), base.twin()
        decisive(ours, claim)
        robustness(theirs, other)
        truth(theirs, claim, setting={"x": 2})
        found = merged_tries(ours.tries(), theirs.tries())
        self.same(found, ours.tries() + [(other, (("x", at),)) for at in range(3)])

    def test_the_list_belongs_to_the_caller(self):
        ours, theirs = [(("rises", "c", "x"), ())], []
        merged_tries(ours, theirs).append(1)
        merged_tries(theirs, ours).append(1)
        self.same((ours, theirs), ([(("rises", "c", "x"), ())], []))


class TestLoad(Case):
    def setUp(self):
        self.r = goods("r", 3)

    def told(self, error, cells):
        """Refused in each order of the dict."""
        found = [self.refused(error, load, [self.r], dict(order)) for order in itertools.permutations(cells.items())]
        return found[0]

    def test_load(self):
        cells = {"b": ("a", (("first", 1),)), "a": ("c", ()), "c": ("r", ()), "d": ("r", (("union", "b"),))}
        for order in itertools.permutations(cells.items()):
            nb = load([self.r], dict(order))
            self.assertIsInstance(nb, Notebook)
            self.same(nb.cells(), {"c": cells["c"], "a": cells["a"], "b": cells["b"], "d": cells["d"]})
            self.assertEqual(nb, load(registers=[self.r], cells=nb.cells()))
        self.assertIs(nb.registers()[0], self.r)
        self.same((nb.setting(), nb.tries(), nb.evaluated()), ({}, [], []))
        self.same(load([self.r], {}).names(), [])

    def test_arguments_stay(self):
        cells = {"b": ("a", ()), "a": ("r", ())}
        registers = [self.r]
        nb = load(registers, cells)
        nb.drop("b")
        self.same(cells, {"b": ("a", ()), "a": ("r", ())})
        self.assertEqual(registers, [self.r])

    def test_what_notebook_raises_comes_first(self):
        for thing in ODD_THINGS:
            found = self.refused(BadRegisters, load, thing, {"a": None})
            self.same(found.index, 0 if thing == ["a"] or thing == [[[]]] else None)
        self.same(self.refused(BadRegisters, load, [self.r, self.r], {"a": ("a", ())}).index, 1)

    def test_what_put_raises(self):
        self.same(self.told(BadName, {"r": ("s", ()), "z": ("r", ())}).given, "r")
        self.same(self.told(BadName, {"A": ("r", ()), "z": ("r", ())}).given, "A")
        self.same(self.told(UnknownName, {"a": ("s", ()), "b": ("r", ())}).key, "s")
        self.same(self.told(BadStep, {"a": ("r", ()), "b": ("r", (("distinct",), ("first", -1)))}).index, 1)
        self.same(self.told(BadStep, {"a": None, "b": ("r", ())}).index, None)
        label = ("choose", "x", ((), ()))
        self.same(self.told(BadLabel, {"a": ("r", (label,)), "b": ("r", (("choose", "x", ((), (), ())),))}).label, "x")

    def test_the_first_cell_that_cannot_be_put(self):
        bad = ("r", (("first", -1),))
        self.same(self.told(UnknownName, {"a": ("q", ()), "b": bad}).key, "q")
        self.same(self.told(BadStep, {"a": bad, "b": ("q", ())}).index, 0)
        # b reads c, so that c comes first; d does not.
        self.same(self.told(UnknownName, {"b": ("c", (("first", -1),)), "c": ("q", ()), "d": bad}).key, "q")
        self.same(self.told(BadStep, {"a": ("d", ()), "c": ("r", (("distinct",), ("distinct", 1))), "d": ("q", ())}).index, 1)
        # What cannot be put is told ahead of a ring, also of one with lesser names.
        self.same(self.told(UnknownName, {"a": ("b", ()), "b": ("a", ()), "c": ("q", ())}).key, "q")
        # What waits for a ring is not put.
        self.same(self.told(Cycle, {"a": ("b", (("first", -1),)), "b": ("c", ()), "c": ("b", ()), "d": ("r", ())}).key, "a")

    def test_cycles(self):
        self.same(self.told(Cycle, {"a": ("a", ())}).key, "a")
        self.same(self.told(Cycle, {"c": ("b", ()), "b": ("c", ())}).key, "b")
        self.same(self.told(Cycle, {"c": ("b", ()), "b": ("c", ()), "a": ("r", ())}).key, "b")
        self.same(self.told(Cycle, {"c": ("b", ()), "b": ("c", ()), "a": ("b", ())}).key, "a")
        self.same(self.told(Cycle, {"z": ("r", (("union", "z"),)), "y": ("z", ())}).key, "y")
        self.same(self.told(Cycle, {"b": ("r", (("join", "c", ("item",)),)), "c": ("r", (("choose", "x", ((), (("union", "b"),))),))}).key, "b")

    def test_what_a_cell_reads(self):
        # Each of these reads the cell z, whatever else is invalid, so that z, which cannot be put, is told ahead of it.
        z = {"z": ("q", ())}
        within = ("choose", "x", ((("union", "z"),), ()))
        for pipeline in (
                ("z", (("first", -1),)), ("z", (None,)), ("z", ("union",)), ("r", (("union", "z"),)), ("r", (("union", "z", 1, 2),)),
                ("r", (("join", "z"),)), ("r", (("join", "z", None),)), ("r", (("join", "z", ("item",), 4),)), (None, (("union", "z"),)),
                ("", (("union", "z"),)), (["z"], (("join", "z"),)), ("r", (None, 1, ("first",), ("union", "z"))), ("r", (within,)),
                ("r", (("choose", None, ((("union", "z"),), 5)),)), ("r", (("choose", "x", (None, (1, ("join", "z")))),)),
                ("r", (("choose", "x", ((("union", "z"),),)),)), ("r", (("choose", "x", ((within,), ())),)),
                ("r", (("choose", 1, ((("choose", 2, ((within,),)),),)),)), ("r", (("union", "z"),) * 50),
                ("r", (("choose", "x", ((("union", "z"),),) * 9),)), ("q", (("union", "z"),))):
            self.same(self.told(UnknownName, {"a": pipeline, **z}).key, "q")

    def test_what_it_does_not_read(self):
        # None of these reads z, so that it is told first, as put tells it.
        z = {"z": ("q", ())}
        union = ("union", "z")
        for pipeline in (
                None, "z", ["z", ()], ("z",), ("z", (), ()), ("z", [union]), ("z", [("union", "z")]), ("z", None), ("z", "z"),
                {"z": ()}, ()):
            self.same(self.told(BadStep, {"a": pipeline, **z}).index, None)
        for step in (("union",), ["union", "z"], ("keep", "z"), ("select", ("z",)), ("first", union), ("choose", union), ("choose", "x"),
                     ("choose", "x", (), ((union,), ())), ("choose", "x", ((union,), ()), 1), ("choose", "x", [(union,), ()]), ("choose", "x", ([union],)),
                     ("choose", "z", ((), (), (), (), ())), ("union", ("z",)), ("union", ["z"]), ("join", "r", ("z",)), ("Union", "z"),
                     ("unions", "z"), (("union", "z"),), "union", ("choose", "x", "z")):
            self.same(self.told(BadStep, {"a": ("r", (step,)), **z}).index, 0)
        # Names of cells that are no valid names are not read.
        self.same(self.told(BadStep, {"a": ("a b", ()), "a b": ("q", ())}).index, None)
        self.same(self.told(BadStep, {"a": ("r", (("union", "a b"),)), "a b": ("q", ())}).index, 0)
        for thing in ODD_THINGS:
            if thing != ():
                self.refused(BadStep, load, [self.r], {"a": ("r", thing), **z})
            self.refused(BadStep, load, [self.r], {"a": ("r", (thing,)), **z})
            self.refused(BadStep, load, [self.r], {"a": ("r", (("choose", "x", thing),)), **z})
            self.refused(BadStep, load, [self.r], {"a": ("r", (("choose", "x", (thing, (("first", -1),))),)), **z})
            self.refused(BadStep, load, [self.r], {"a": ("r", (("union", thing),)), **z})

    def test_a_cell_of_a_registers_name(self):
        # It is read like any other cell, and cannot be put.
        self.same(self.told(BadName, {"a": ("r", ()), "r": ("s", ())}).given, "r")
        self.same(self.told(UnknownName, {"a": ("r", ()), "r": ("b", ()), "b": ("s", ())}).key, "s")
        self.same(self.told(Cycle, {"a": ("r", ()), "r": ("a", ())}).key, "a")

    def test_forty_cells(self):
        cells = {"c" + str(at): ("r", ()) for at in range(40)}
        self.assertEqual(len(load([self.r], cells)), 40)
        self.same(self.refused(TooLarge, load, [self.r], {**cells, "d": ("r", ())}).size, 41)
        self.same(self.refused(UnknownName, load, [self.r], {**cells, "b": ("q", ())}).key, "q")
        self.same(self.refused(TooLarge, load, [self.r], {**cells, "d": ("r", ()), "e": None}).size, 41)

    def test_cells_of_a_notebook(self):
        chance = random.Random(31)
        for turn in range(60):
            nb = Notebook([self.r])
            tables = {"r": GOODS}
            numbers = {}
            for name in chance.sample(("a", "b", "c", "d", "e"), 4):
                nb.put(name, reference.some_pipeline(chance, tables, check, (BadStep, UnknownName), numbers, most=3))
                tables[name] = nb.columns(name)
                numbers.update(dict(nb.labels(name)))
            cells = list(nb.cells().items())
            chance.shuffle(cells)
            found = load([self.r], dict(cells))
            self.assertEqual(found.cells(), nb.cells())
            self.same(found.names(), nb.names())


if __name__ == "__main__":
    unittest.main()
