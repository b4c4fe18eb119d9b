"""Promises [14] and [15]: which pipelines are valid, their columns, their labels, and what they resolve to."""

import copy
import unittest

from common import ODD_THINGS, Case, col, number
from liveclaims.errors import BadChoice, BadStep, UnknownName
from liveclaims.steps import check, labels_of, resolved

R = (("n", "number"), ("w", "word"), ("f", "flag"))
S = (("w", "word"), ("n", "number"), ("x", "number"))
EIGHT = tuple([(name, "number") for name in "abcdefgh"])
TABLES = {
    "r": R,
    "s": S,
    "t": R,
    "u": (("w", "word"), ("p", "number"), ("q", "flag")),
    "v": (("w", "number"), ("p", "number")),
    "e": EIGHT,
    "d": EIGHT[:7] + (("z", "word"),),
    "k": (("a", "number"), ("i", "number")),
    "back": R[::-1],
}
KEEP = ("keep", col("f"))
FIRST = ("first", 1)
# One valid step of each kind.
VALID = (
    KEEP, ("set", "n", number(1)), ("select", ("n", "w")), ("rename", "n", "m"), ("sort", "n", "up"), FIRST,
    ("sample", 1, 2, 3), ("join", "u", ("w",)), ("union", "t"), ("group", ("w",), (("c", "count", "n"),)), ("distinct",),
    ("choose", "x", ((), (FIRST,))),
)
NOT_NAMES = ODD_THINGS


class Steps(Case):
    def good(self, step, columns, source="r"):
        self.same(check(TABLES, (source, (step,))), columns)

    def bad(self, *steps, index=0, source="r"):
        self.same(self.refused(BadStep, check, TABLES, (source, steps)).index, index)

    def unknown(self, name, *steps, source="r"):
        self.same(self.refused(UnknownName, check, TABLES, (source, steps)).key, name)


class TestPipelines(Steps):
    def test_example(self):
        step = ("set", "b", ("same", ("column", "a"), ("value", (1, 2))))
        self.same(check({"r": (("a", "number"),)}, ("r", (step,))), (("a", "number"), ("b", "flag")))

    def test_arguments_by_name(self):
        self.same(check(pipeline=("r", ()), tables=TABLES), R)
        self.same(check(pipeline=("r", ()), tables=TABLES, long=True), R)
        self.assertRaises(TypeError, check, TABLES, ("r", ()), True)

    def test_no_steps(self):
        for name in TABLES:
            self.same(check(TABLES, (name, ())), TABLES[name])

    def test_not_a_pipeline(self):
        for thing in ODD_THINGS + (["r", ()], ("r",), ("r", (), ()), ("r", []), ("r", None), ("r", {}), ("r", "ab"),
                                   ("r", range(2)), ((), "r"), "r", ("r", FIRST, FIRST), ("r", (), None)):
            for long in (False, True):
                self.same(self.refused(BadStep, check, TABLES, thing, long=long).index, None)

    def test_source_that_is_no_name(self):
        for name in NOT_NAMES:
            self.same(self.refused(BadStep, check, TABLES, (name, ())).index, None)

    def test_source_that_is_not_there(self):
        self.same(self.refused(UnknownName, check, TABLES, ("x", ())).key, "x")
        self.same(self.refused(UnknownName, check, {}, ("r", ())).key, "r")
        # The steps are looked at behind the source.
        self.same(self.refused(UnknownName, check, TABLES, ("x", (None, ("union", "y")))).key, "x")

    def test_form_comes_ahead_of_the_source(self):
        self.same(self.refused(BadStep, check, TABLES, ("x", [])).index, None)
        self.same(self.refused(BadStep, check, TABLES, ("x", (FIRST,) * 11)).index, None)

    def test_number_of_steps(self):
        self.same(check(TABLES, ("r", (FIRST,) * 10)), R)
        self.same(self.refused(BadStep, check, TABLES, ("r", (FIRST,) * 11)).index, None)
        self.same(self.refused(BadStep, check, TABLES, ("r", (None,) * 11)).index, None)
        self.same(self.refused(BadStep, check, TABLES, ("r", (FIRST,) * 11), long=False).index, None)
        for count in (10, 11, 39, 40):
            self.same(check(TABLES, ("r", (FIRST,) * count), long=True), R)
        self.same(self.refused(BadStep, check, TABLES, ("r", (FIRST,) * 41), long=True).index, None)

    def test_long_changes_nothing_else(self):
        self.same(self.refused(BadStep, check, TABLES, ("r", (FIRST, None)), long=True).index, 1)
        self.same(self.refused(UnknownName, check, TABLES, ("x", ()), long=True).key, "x")
        self.same(check(TABLES, ("r", (FIRST,) * 20 + (VALID[-1],)), long=True), R)

    def test_first_invalid_step(self):
        self.bad(FIRST, FIRST, None, None, index=2)
        self.bad(None, ("union", "nope"), index=0)
        self.unknown("nope", ("union", "nope"), None)
        self.unknown("nope", ("union", "nope"), ("union", "never"))
        self.unknown("never", FIRST, ("join", "never", None), ("union", "nope"))
        self.bad(*((FIRST,) * 9 + (("first", -1),)), index=9)

    def test_odd_steps(self):
        for thing in ODD_THINGS:
            self.bad(thing)
            self.bad(FIRST, thing, index=1)

    def test_odd_words(self):
        for word in ODD_THINGS + ("Keep", "keep ", "filter", "limit", "source", "total", "last"):
            for step in VALID:
                self.bad((word,) + step[1:])

    def test_lists_in_place_of_tuples(self):
        for step in VALID:
            self.bad(list(step))

    def test_lengths(self):
        for step in VALID:
            check(TABLES, ("r", (step,)))
            self.bad(step + (None,))
            self.bad(step + ((),))
            if len(step) > 1:
                self.bad(step[:-1])
            for short in range(1, len(step)):
                self.bad(step[:short])
        self.bad(())

    def test_nothing_is_modified(self):
        tables, pipeline = dict(TABLES), ("r", (KEEP, ("select", ["n"]), {}))
        before = copy.deepcopy((tables, pipeline))
        self.refused(BadStep, check, tables, pipeline)
        self.assertEqual((tables, pipeline), before)

    def test_order_of_keys_does_not_matter(self):
        turned = {name: TABLES[name] for name in reversed(list(TABLES))}
        for step in VALID:
            self.same(check(turned, ("r", (step,))), check(TABLES, ("r", (step,))))


class TestKeepAndSet(Steps):
    def test_keep(self):
        self.good(KEEP, R)
        self.good(("keep", ("value", True)), R)
        for expression in (col("n"), col("w"), number(1), col("x"), ("not", col("n")), ["column", "f"]) + ODD_THINGS:
            self.bad(("keep", expression))

    def test_keep_to_its_depth(self):
        deep = col("f")
        for level in range(7):
            deep = ("not", deep)
        self.good(("keep", deep), R)
        self.bad(("keep", ("not", deep)))

    def test_set_of_a_column(self):
        self.good(("set", "n", col("n")), R)
        self.good(("set", "n", col("w")), (("n", "word"),) + R[1:])
        self.good(("set", "w", ("missing", col("w"))), (R[0], ("w", "flag"), R[2]))
        self.good(("set", "f", number(1)), R[:2] + (("f", "number"),))

    def test_set_of_a_new_column(self):
        self.good(("set", "a", col("f")), R + (("a", "flag"),))
        self.good(("set", "abcdefghijkl", col("w")), R + (("abcdefghijkl", "word"),))

    def test_set_of_too_many_columns(self):
        self.good(("set", "h", ("value", True)), EIGHT[:7] + (("h", "flag"),), source="e")
        self.bad(("set", "i", number(1)), source="e")
        self.bad(("set", "h", number(1)), source="d")
        self.same(check(TABLES, ("e", (("select", ("a", "b")), ("set", "i", number(1))))),
                  EIGHT[:2] + (("i", "number"),))

    def test_wrong_sets(self):
        for name in NOT_NAMES:
            self.bad(("set", name, number(1)))
        for expression in ODD_THINGS + (col("x"), ("plus", col("n"), col("w"))):
            self.bad(("set", "a", expression))
            self.bad(("set", "n", expression))

    def test_a_later_step_sees_the_new_columns(self):
        self.same(check(TABLES, ("r", (("set", "a", col("f")), ("keep", col("a"))))), R + (("a", "flag"),))
        self.bad(("keep", col("a")), ("set", "a", col("f")))
        self.bad(("set", "f", number(1)), KEEP, index=1)


class TestSelectAndRename(Steps):
    def test_select(self):
        self.good(("select", ("n",)), R[:1])
        self.good(("select", ("f", "n")), (R[2], R[0]))
        self.good(("select", ("n", "w", "f")), R)
        self.good(("select", tuple("hgfedcba")), EIGHT[::-1], source="e")

    def test_wrong_selects(self):
        for names in ODD_THINGS + ((), ("x",), ("n", "n"), ("n", "w", "n"), ("n", "x"), ["n"], "n", ("n", ["w"]), ("n", None),
                                   ("n", ("w",)), (True,), {"n": 1}, ("N",)):
            self.bad(("select", names))
        for thing in ODD_THINGS:
            self.bad(("select", (thing,)))
            self.bad(("select", ("n", thing)))

    def test_rename(self):
        self.good(("rename", "n", "m"), (("m", "number"),) + R[1:])
        self.good(("rename", "f", "abcdefghijkl"), R[:2] + (("abcdefghijkl", "flag"),))
        self.good(("rename", "n", "n"), R)

    def test_wrong_renames(self):
        self.bad(("rename", "n", "w"))
        self.bad(("rename", "f", "n"))
        self.bad(("rename", "x", "y"))
        self.bad(("rename", "x", "x"))
        self.bad(("rename", "x", "n"))
        for thing in ODD_THINGS:
            self.bad(("rename", thing, "m"))
            self.bad(("rename", "n", thing))
            self.bad(("rename", thing, thing))

    def test_behind_select_and_rename(self):
        self.bad(("select", ("n",)), KEEP, index=1)
        self.bad(("rename", "n", "m"), ("sort", "n", "up"), index=1)
        self.same(check(TABLES, ("r", (("rename", "n", "m"), ("rename", "w", "n")))), (("m", "number"), ("n", "word"), R[2]))


class TestSortFirstSample(Steps):
    def test_sort(self):
        for name in ("n", "w", "f"):
            for order in ("up", "down"):
                self.good(("sort", name, order), R)

    def test_wrong_sorts(self):
        for thing in ODD_THINGS + ("x",):
            self.bad(("sort", thing, "up"))
        for thing in ODD_THINGS + ("Up", "asc", "downs", "u", "", ("up",), ["up"]):
            self.bad(("sort", "n", thing))

    def test_first(self):
        for count in (0, 1, 999, 1000):
            self.good(("first", count), R)
        for count in (-1, 1001, True, False, None, 1.0, 0.0, "1", (1,), [1], (1, 1), {}, 10 ** 50):
            self.bad(("first", count))

    def test_sample(self):
        for step in ((0, 1, 0), (1, 1, 0), (0, 1000, 10 ** 9), (1000, 1000, 10 ** 9), (500, 999, 7)):
            self.good(("sample",) + step, R)

    def test_wrong_samples(self):
        for step in ((0, 0, 0), (2, 1, 0), (-1, 1, 0), (0, 1, -1), (0, 1, 10 ** 9 + 1), (0, 1001, 0), (1001, 1001, 0),
                     (0, -1, 0), (-1, -1, 0)):
            self.bad(("sample",) + step)
        for thing in (True, False, None, 1.0, "1", (1,), [1], (1, 1), {}, set(), len):
            self.bad(("sample", thing, 2, 3))
            self.bad(("sample", 1, thing, 3))
            self.bad(("sample", 1, 2, thing))


class TestJoinAndUnion(Steps):
    def test_join(self):
        self.good(("join", "u", ("w",)), R + (("p", "number"), ("q", "flag")))
        self.good(("join", "s", ("n", "w")), R + (("x", "number"),))
        self.good(("join", "s", ("w", "n")), R + (("x", "number"),))
        self.good(("join", "t", ("f", "n", "w")), R)
        self.good(("join", "r", ("n", "w", "f")), R)

    def test_wrong_joins(self):
        # No names, too many, names again, columns of one table alone, of unlike kinds.
        for names in ((), ("w", "w"), ("p",), ("n",), ("x",), ("w", "p"), ("w", "n"), ["w"], "w", ("w", None), (["w"],)) + ODD_THINGS:
            self.bad(("join", "u", names))
        for thing in ODD_THINGS:
            self.bad(("join", "u", (thing,)))
            self.bad(("join", "u", ("w", thing)))
        self.bad(("join", "v", ("w",)))
        self.bad(("join", "e", ("a", "b", "c", "d")), source="e")

    def test_columns_of_both(self):
        self.bad(("join", "s", ("w",)))
        self.bad(("join", "t", ("w",)))
        self.bad(("join", "r", ("n",)))
        self.bad(("join", "t", ("w", "n")))

    def test_join_to_too_many_columns(self):
        self.bad(("join", "k", ("a",)), source="e")
        self.bad(("join", "d", ("a", "b", "c")), source="e")
        self.same(check(TABLES, ("e", (("select", tuple("abcdefg")), ("join", "k", ("a",))))), EIGHT[:7] + (("i", "number"),))
        self.same(check(TABLES, ("k", (("join", "k", ("a", "i")),))), TABLES["k"])

    def test_unknown_tables_of_joins(self):
        for names in ((), ("w",), None, ["w"], ("nope",), 5):
            self.unknown("nope", ("join", "nope", names))
        for thing in ODD_THINGS:
            self.bad(("join", thing, ("w",)))
        # Not of that form: no join of 3 things.
        self.bad(("join", "nope"))
        self.bad(("join", "nope", ("w",), ()))
        self.bad(["join", "nope", ("w",)])
        self.bad(("Join", "nope", ("w",)))

    def test_union(self):
        self.good(("union", "t"), R)
        self.good(("union", "r"), R)

    def test_wrong_unions(self):
        for other in ("s", "u", "back", "e"):
            self.bad(("union", other))
        self.bad(("select", ("n", "w")), ("union", "r"), index=1)
        self.bad(("set", "n", col("w")), ("union", "r"), index=1)
        self.bad(("rename", "n", "m"), ("union", "r"), index=1)

    def test_unknown_tables_of_unions(self):
        self.unknown("nope", ("union", "nope"))
        for thing in ODD_THINGS:
            self.bad(("union", thing))
        self.bad(("union", "nope", ()))
        self.bad(("union",))
        self.bad(["union", "nope"])


class TestGroupAndDistinct(Steps):
    def test_group(self):
        self.good(("group", (), (("c", "count", "w"),)), (("c", "number"),))
        self.good(("group", ("w",), (("n", "mean", "n"),)), (("w", "word"), ("n", "number")))
        self.good(("group", ("f", "w", "n"), (("a", "sum", "n"), ("b", "count", "f"))),
                  (("f", "flag"), ("w", "word"), ("n", "number"), ("a", "number"), ("b", "number")))
        for function in ("count", "sum", "mean", "median", "least", "greatest"):
            self.good(("group", (), (("a", function, "n"),)), (("a", "number"),))

    def test_most_totals(self):
        six = tuple([(name, "count", "w") for name in "abcdef"])
        self.good(("group", ("n", "w"), six), (R[0], R[1]) + tuple([(name, "number") for name in "abcdef"]))
        self.bad(("group", ("n", "w", "f"), (("x", "count", "n"),) + six[1:]))
        self.bad(("group", (), six + (("g", "count", "w"),)))
        self.good(("group", ("n", "w", "f"), six[:5]), R + tuple([(name, "number") for name in "abcde"]))

    def test_wrong_names(self):
        totals = (("c", "count", "n"),)
        for names in ODD_THINGS + (("x",), ("n", "n"), ["n"], "n", ("n", ["w"]), ("n", None)):
            if names != ():
                self.bad(("group", names, totals))
        for thing in ODD_THINGS:
            self.bad(("group", (thing,), totals))
            self.bad(("group", ("n", thing), totals))
        self.bad(("group", ("a", "b", "c", "d"), (("x", "count", "a"),)), source="e")

    def test_wrong_totals(self):
        for totals in ODD_THINGS + ((), [("c", "count", "n")], ("c", "count", "n"), (["c", "count", "n"],), (("c", "count"),),
                                    (("c", "count", "n", "n"),), (("c", "count", "n"), None)):
            self.bad(("group", (), totals))
        for thing in ODD_THINGS:
            self.bad(("group", (), (thing,)))
            self.bad(("group", (), (("a", "count", "n"), thing)))
            self.bad(("group", (), ((thing, "count", "n"),)))
            self.bad(("group", (), (("a", thing, "n"),)))
            self.bad(("group", (), (("a", "count", thing),)))
            self.bad(("group", (), (("a", "sum", thing),)))
        for function in ("only", "max", "Sum", "total"):
            self.bad(("group", (), (("a", function, "n"),)))

    def test_kinds_of_totals(self):
        for function in ("sum", "mean", "median", "least", "greatest"):
            for column in ("w", "f", "x"):
                self.bad(("group", (), (("a", function, column),)))
        for column in ("n", "w", "f"):
            self.good(("group", (), (("a", "count", column),)), (("a", "number"),))
        self.bad(("group", (), (("a", "count", "x"),)))

    def test_names_again(self):
        self.bad(("group", ("w",), (("w", "count", "n"),)))
        self.bad(("group", (), (("a", "count", "n"), ("a", "sum", "n"))))
        # A column that is no longer there may be the name of a total.
        self.good(("group", ("w",), (("f", "count", "n"),)), (("w", "word"), ("f", "number")))

    def test_distinct(self):
        self.good(("distinct",), R)
        for thing in ODD_THINGS:
            self.bad(("distinct", thing))


class TestChoose(Steps):
    def test_choose(self):
        self.good(("choose", "x", ((), ())), R)
        self.good(("choose", "x", ((KEEP,), (FIRST, FIRST, FIRST, FIRST), (), (("union", "t"),))), R)
        self.good(("choose", "x", ((("set", "n", ("plus", col("n"), number(1))),), (("set", "n", number(1)),))), R)
        self.good(("choose", "r", ((("select", ("w",)),), (("group", ("w",), (("c", "count", "n"),)), ("select", ("w",))))), R[1:2])

    def test_label(self):
        for label in NOT_NAMES:
            self.bad(("choose", label, ((), ())))

    def test_number_of_alternatives(self):
        for count in range(7):
            step = ("choose", "x", ((),) * count)
            if 2 <= count <= 4:
                self.good(step, R)
            else:
                self.bad(step)

    def test_number_of_steps(self):
        self.good(("choose", "x", ((FIRST,) * 4, ())), R)
        self.bad(("choose", "x", ((FIRST,) * 5, ())))
        self.bad(("choose", "x", ((), (), (FIRST,) * 5)))

    def test_odd_alternatives(self):
        for thing in ODD_THINGS + ([(), ()], ([], ()), ((), []), (FIRST, ()), ((), None), ((), (), "ab")):
            self.bad(("choose", "x", thing))
        for thing in ODD_THINGS:
            if thing != ():
                self.bad(("choose", "x", (thing, ())))
                self.bad(("choose", "x", ((), thing)))
            self.bad(("choose", "x", ((thing,), ())))
            self.bad(("choose", "x", ((), (FIRST, thing))))

    def test_invalid_steps_have_the_index_of_the_choose(self):
        self.bad(FIRST, KEEP, ("choose", "x", ((FIRST, ("first", -1)), ())), index=2)
        self.bad(FIRST, ("choose", "x", ((), (), (FIRST, FIRST, ("keep", col("n"))))), index=1)

    def test_unlike_columns(self):
        self.bad(FIRST, ("choose", "x", ((), (("select", ("n",)),))), index=1)
        self.bad(("choose", "x", ((), (("rename", "n", "m"),))))
        self.bad(("choose", "x", ((), (("select", ("w", "n", "f")),))))
        self.bad(("choose", "x", ((), (), (("set", "n", col("w")),))))
        self.bad(("choose", "x", ((("select", ("n",)),), (), ())))
        self.bad(("choose", "x", ((("select", ("n",)),), (("select", ("n",)),), ())))

    def test_each_alternative_begins_anew(self):
        self.bad(("choose", "x", ((("set", "a", col("f")),), (("keep", col("a")),))))
        self.good(("choose", "x", ((("select", ("n",)), ("set", "f", number(1)), ("select", ("f",))),
                                   (KEEP, ("set", "f", number(2)), ("select", ("f",))))), (("f", "number"),))

    def test_later_steps_see_the_columns(self):
        pick = ("choose", "x", ((("select", ("n",)),), (("set", "n", number(1)), ("select", ("n",)))))
        self.same(check(TABLES, ("r", (pick, ("sort", "n", "up")))), R[:1])
        self.bad(pick, KEEP, index=1)

    def test_choose_within_an_alternative(self):
        inner = ("choose", "y", ((), ()))
        self.bad(FIRST, ("choose", "x", ((inner,), ())), index=1)
        self.bad(FIRST, ("choose", "x", ((), (FIRST, inner))), index=1)
        # Whatever it holds, and in its turn.
        self.bad(("choose", "x", ((("choose", "y", ((("union", "nope"),), ())),), ())))
        self.bad(("choose", "x", ((("choose", "y", ((), ())), ("union", "nope")), ())))
        self.bad(("choose", "x", ((("choose",), ("union", "nope")), ())))
        self.unknown("nope", ("choose", "x", ((("union", "nope"), inner), ())))
        self.unknown("nope", ("choose", "x", ((("union", "nope"),), (inner,))))

    def test_unknown_tables(self):
        self.unknown("nope", ("choose", "x", ((("union", "nope"),), ())))
        self.unknown("nope", FIRST, ("choose", "x", ((), (FIRST, ("join", "nope", None)))))
        self.unknown("nope", ("choose", "x", ((("union", "nope"),), (None,))))
        self.unknown("nope", ("choose", "x", ((("union", "nope"), None), ())))
        self.unknown("nope", ("choose", "x", ((FIRST, ("union", "nope")), (("union", "never"),))))
        self.bad(("choose", "x", ((None, ("union", "nope")), ())))
        self.bad(("choose", "x", ((None,), (("union", "nope"),))))
        self.bad(("choose", "x", ((("union", "nope", 1),), ())))
        self.bad(("choose", "x", ((("join", "nope"),), ())))
        # Unlike columns are looked at behind all steps.
        self.unknown("nope", ("choose", "x", ((), (("select", ("n",)),), (("union", "nope"),))))

    def test_form_comes_ahead_of_the_steps(self):
        nope = (("union", "nope"),)
        self.bad(("choose", "X", (nope, ())))
        self.bad(("choose", "x", (nope,)))
        self.bad(("choose", "x", (nope, (), (), (), ())))
        self.bad(("choose", "x", (nope, [])))
        self.bad(("choose", "x", (nope, (FIRST,) * 5)))
        self.bad(("choose", "x", [nope, ()]))
        self.bad(("choose", "x", (nope, ()), 1))
        self.bad(("choose", "x"))
        self.bad(("choose",))

    def test_labels_that_occur_again(self):
        two, three = ("choose", "x", ((), ())), ("choose", "x", ((), (), ()))
        self.same(check(TABLES, ("r", (two, FIRST, ("choose", "x", ((FIRST,), (KEEP,)))))), R)
        self.same(check(TABLES, ("r", (two, ("choose", "y", ((), (), ())), two))), R)
        self.bad(two, FIRST, three, index=2)
        self.bad(three, two, index=1)
        self.bad(three, three, two, index=2)
        # The number comes ahead of the steps, and an earlier invalid step ahead of it.
        self.bad(two, ("choose", "x", ((("union", "nope"),), (), ())), index=1)
        self.unknown("nope", two, ("union", "nope"), three)


class TestLabels(Case):
    def test_labels_of(self):
        self.same(labels_of(("r", ())), [])
        self.same(labels_of(("r", (FIRST, KEEP))), [])
        steps = (("choose", "y", ((), (), ())), FIRST, ("choose", "x", ((), ())), ("choose", "y", ((FIRST,), (), ())),
                 ("choose", "a1", ((), (), (), ())))
        self.same(labels_of(("r", steps)), [("a1", 4), ("x", 2), ("y", 3)])
        self.same(labels_of(pipeline=("r", steps[:1])), [("y", 3)])

    def test_the_list_belongs_to_the_caller(self):
        pipeline = ("r", (("choose", "y", ((), (), ())),))
        labels_of(pipeline).clear()
        self.same(labels_of(pipeline), [("y", 3)])


class TestResolved(Case):
    STEPS = (("choose", "y", ((KEEP,), (FIRST, FIRST), ())), ("distinct",), ("choose", "x", ((), (("first", 2),))),
             ("choose", "y", ((("first", 3),), (), (("first", 4),))))

    def test_example(self):
        self.same(resolved(("r", (("choose", "x", ((("first", 1),), ())),)), {"x": 1}), ("r", ()))

    def test_arguments_by_name(self):
        self.same(resolved(setting={}, pipeline=("r", (FIRST,))), ("r", (FIRST,)))

    def test_settings(self):
        pipeline = ("r", self.STEPS)
        self.same(resolved(pipeline, {}), ("r", (KEEP, ("distinct",), ("first", 3))))
        self.same(resolved(pipeline, {"y": 1}), ("r", (FIRST, FIRST, ("distinct",))))
        self.same(resolved(pipeline, {"y": 2, "x": 1}), ("r", (("distinct",), ("first", 2), ("first", 4))))
        self.same(resolved(pipeline, {"x": 1, "y": 2}), ("r", (("distinct",), ("first", 2), ("first", 4))))
        self.same(resolved(pipeline, {"y": 0, "x": 0}), resolved(pipeline, {}))

    def test_other_labels_are_ignored(self):
        self.same(resolved(("r", self.STEPS), {"z": 9, "w": None, "X": -1, 5: 5}), resolved(("r", self.STEPS), {}))
        self.same(resolved(("r", (FIRST,)), {"x": 7}), ("r", (FIRST,)))

    def test_wrong_indexes(self):
        for index in (-1, 2, 3, True, False, None, 0.0, 1.0, "0", "", (0,), [0], {}, 10 ** 50, len):
            self.same(self.refused(BadChoice, resolved, ("r", self.STEPS), {"x": index}).label, "x")
        for index in (-1, 3, True):
            self.same(self.refused(BadChoice, resolved, ("r", self.STEPS), {"y": index}).label, "y")
        self.same(resolved(("r", self.STEPS), {"y": 2})[0], "r")

    def test_the_first_label_by_position(self):
        self.same(self.refused(BadChoice, resolved, ("r", self.STEPS), {"x": 5, "y": 5}).label, "y")
        self.same(self.refused(BadChoice, resolved, ("r", self.STEPS[1:]), {"y": 5, "x": 5}).label, "x")

    def test_longer_than_ten_steps(self):
        steps = (("choose", "x", ((), (FIRST,) * 4)),) * 10
        found = resolved(("r", steps), {"x": 1})
        self.same(found, ("r", (FIRST,) * 40))
        self.same(check(TABLES, found, long=True), R)
        self.refused(BadStep, check, TABLES, found)

    def test_nothing_is_modified(self):
        setting = {"y": 1, "z": 3}
        resolved(("r", self.STEPS), setting)
        self.assertEqual(setting, {"y": 1, "z": 3})


if __name__ == "__main__":
    unittest.main()
