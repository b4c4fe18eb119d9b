"""Promises [20] and [21], and what [18] says of the tries of robustness and decisive."""

import itertools
import random
import unittest

import reference
from common import ODD_THINGS, Case, goods
from liveclaims.choices import decisive, robustness
from liveclaims.claims import labels_for, truth
from liveclaims.errors import BadClaim, BadStep, TooLarge, UnknownName
from liveclaims.notebooks import Notebook
from liveclaims.registers import Register
from liveclaims.steps import check

COUNT = ("least", ("count", "c", "cost"), (2, 1))


def cut():
    """The document's example."""
    h = Register("h", (("cost", "number"),))
    for cost in (3, 4):
        h.add(((cost, 1),), author="bo")
    nb = Notebook([h])
    nb.put("c", ("h", (("choose", "cut", ((), (("first", 1),))),)))
    return nb


def state(nb):
    return (nb.setting(), nb.evaluated(), nb.cells(), nb.names(), [origin.entries() for origin in nb.registers()])


def choose(label, *alternatives):
    return ("choose", label, tuple([tuple(steps) for steps in alternatives]))


class TestExamples(Case):
    def test_robustness(self):
        self.same(robustness(cut(), COUNT), ([(("cut", 0),)], [(("cut", 1),)], []))

    def test_decisive(self):
        self.same(decisive(cut(), COUNT), ["cut"])

    def test_arguments_by_name(self):
        self.same(robustness(notebook=cut(), claim=COUNT), robustness(cut(), COUNT))
        self.same(decisive(claim=COUNT, notebook=cut()), ["cut"])


class TestRobustness(Case):
    def setUp(self):
        self.r = goods("r", 5)
        self.nb = Notebook([self.r])

    def test_no_label(self):
        self.nb.put("c", ("r", ()))
        self.nb.put("d", ("r", (choose("x", (), ()),)))
        self.same(robustness(self.nb, COUNT), ([()], [], []))
        self.same(robustness(self.nb, ("most", ("count", "c", "cost"), (2, 1))), ([], [()], []))
        self.same(robustness(self.nb, ("least", ("only", "c", "cost"), (2, 1))), ([], [], [()]))
        self.same(self.nb.tries(), [(COUNT, ()), (("most", ("count", "c", "cost"), (2, 1)), ()),
                                    (("least", ("only", "c", "cost"), (2, 1)), ())])

    def test_several_labels(self):
        self.nb.put("c", ("r", (choose("y", (), [("first", 3)], [("first", 1)]), choose("b", (), [("first", 2)]))))
        # y: 5, 3 or 1 rows; b: all of them, or at most 2.
        self.same(robustness(self.nb, ("least", ("count", "c", "cost"), (3, 1))), (
            [(("b", 0), ("y", 0)), (("b", 0), ("y", 1))],
            [(("b", 0), ("y", 2)), (("b", 1), ("y", 0)), (("b", 1), ("y", 1)), (("b", 1), ("y", 2))],
            []))
        self.same(robustness(self.nb, ("rises", "c", "cost")), (
            [(("b", 0), ("y", 0)), (("b", 0), ("y", 1)), (("b", 1), ("y", 0)), (("b", 1), ("y", 1))],
            [],
            [(("b", 0), ("y", 2)), (("b", 1), ("y", 2))]))

    def test_each_list_is_ascending(self):
        self.nb.put("c", ("r", (choose("x", [("first", 1)], (), [("first", 0)], [("first", 2)]),)))
        self.same(robustness(self.nb, ("least", ("mean", "c", "cost"), (1, 2))),
                  ([(("x", 1),), (("x", 3),)], [(("x", 0),)], [(("x", 2),)]))
        self.same(robustness(self.nb, ("rises", "c", "cost")),
                  ([(("x", 1),), (("x", 3),)], [], [(("x", 0),), (("x", 2),)]))

    def test_labels_of_cells_that_are_read_through_others(self):
        self.nb.put("far", ("r", (choose("far", (), [("first", 1)]),)))
        self.nb.put("near", ("r", (choose("near", (), [("union", "far")]),)))
        self.nb.put("c", ("near", (choose("own", (), [("first", 6)]),)))
        self.nb.put("beside", ("r", (choose("a", (), ()),)))
        # 5 rows, or with far 10 or 6, of these at most 6.
        found = robustness(self.nb, ("least", ("count", "c", "cost"), (7, 1)))
        self.same(found[0], [(("far", 0), ("near", 1), ("own", 0))])
        self.same((len(found[1]), found[2]), (7, []))
        self.same(sorted(found[0] + found[1]), [
            (("far", far), ("near", near), ("own", own)) for far in (0, 1) for near in (0, 1) for own in (0, 1)])

    def test_labels_of_two_cells(self):
        self.nb.put("c", ("r", (choose("x", (), [("first", 1)]),)))
        self.nb.put("d", ("r", (choose("x", (), [("first", 2)]), choose("w", (), [("first", 0)]))))
        claim = ("more", ("count", "c", "cost"), ("count", "d", "cost"), (0, 1))
        self.same(robustness(self.nb, claim), (
            [(("w", 1), ("x", 0)), (("w", 1), ("x", 1))], [(("w", 0), ("x", 0)), (("w", 0), ("x", 1))], []))

    def test_the_setting_in_use_does_not_matter(self):
        self.nb.put("c", ("r", (choose("x", (), [("first", 1)]), choose("y", (), [("first", 3)]))))
        before = robustness(self.nb, COUNT)
        self.nb.choose("x", 1)
        self.nb.choose("y", 1)
        self.same(robustness(self.nb, COUNT), before)

    def test_too_large_counts_as_unknown(self):
        r = goods("r", 300)
        nb = Notebook([r])
        nb.put("b", ("r", (("union", "r"), choose("x", (), [("union", "r"), ("union", "r")]))))
        nb.put("c", ("b", (choose("y", [("first", 5)], [("first", 700)]),)))
        claim = ("least", ("count", "c", "cost"), (6, 1))
        self.same(robustness(nb, claim), (
            [(("x", 0), ("y", 1))], [(("x", 0), ("y", 0))], [(("x", 1), ("y", 0)), (("x", 1), ("y", 1))]))
        self.same([setting for tried, setting in nb.tries()], [
            (("x", 0), ("y", 0)), (("x", 0), ("y", 1)), (("x", 1), ("y", 0)), (("x", 1), ("y", 1))])
        self.same(nb.evaluated(), [])
        r.strike(0, author="bo")
        for at in range(1, 60):
            r.strike(at, author="bo")
        # 240 rows, four times, are few enough.
        self.same(robustness(nb, claim)[2], [])

    def labels(self, *numbers):
        """The cell c has labels of so many alternatives; it also reads others that have them."""
        for at, count in enumerate(numbers):
            source = "c" + str(at - 1) if at else "r"
            name = "c" if at == len(numbers) - 1 else "c" + str(at)
            self.nb.put(name, (source, (choose("x" + str(at), *[()] * count),)))

    def test_sixty_four_settings(self):
        self.labels(4, 4, 4)
        found = robustness(self.nb, COUNT)
        self.same((len(found[0]), found[1], found[2]), (64, [], []))
        self.same(found[0], sorted(found[0]))
        self.assertEqual(len(self.nb.tries()), 64)

    def test_more_settings(self):
        self.labels(4, 4, 2, 3)
        self.same(self.refused(TooLarge, robustness, self.nb, COUNT).size, 96)
        self.same((self.nb.tries(), self.nb.evaluated()), ([], []))
        # decisive knows no such bound.
        self.same(decisive(self.nb, COUNT), [])
        self.assertEqual(len(self.nb.tries()), 1 + 3 + 3 + 1 + 2)

    def test_sixty_five_and_many_more(self):
        self.labels(3, 3, 3, 3)
        self.same(self.refused(TooLarge, robustness, self.nb, COUNT).size, 81)
        self.nb = Notebook([self.r])
        self.labels(*[4] * 40)
        self.same(self.refused(TooLarge, robustness, self.nb, COUNT).size, 4 ** 40)
        self.same(self.nb.tries(), [])
        self.same(decisive(self.nb, COUNT), [])
        self.assertEqual(len(self.nb.tries()), 1 + 3 * 40)

    def test_bad_claims_come_ahead_of_too_many_settings(self):
        self.labels(3, 3, 3, 3)
        for thing in ODD_THINGS + (("least", ("count", "c", "price"), (1, 1)), ("rises", "c", "item")):
            self.refused(BadClaim, robustness, self.nb, thing)
            self.refused(BadClaim, decisive, self.nb, thing)
        self.same((self.nb.tries(), self.nb.evaluated()), ([], []))

    def test_nothing_else_changes(self):
        self.labels(2, 3)
        self.nb.choose("x1", 2)
        self.nb.value("c0")
        before = state(self.nb)
        robustness(self.nb, COUNT)
        decisive(self.nb, COUNT)
        self.same(state(self.nb), before)
        # c was not kept by it, and c0 still is.
        self.nb.value("c")
        self.same(self.nb.evaluated(), ["c0", "c"])
        robustness(self.nb, COUNT)
        decisive(self.nb, COUNT)
        self.nb.value("c")
        self.same(self.nb.evaluated(), ["c0", "c"])

    def test_lists_belong_to_the_caller(self):
        self.labels(2, 2)
        for part in (0, 1, 2):
            robustness(self.nb, COUNT)[part].clear()
        self.assertEqual(len(robustness(self.nb, COUNT)[0]), 4)
        self.same(robustness(self.nb, COUNT)[1:], ([], []))
        found = robustness(self.nb, COUNT)
        self.assertIsNot(found[1], found[2])
        decisive(self.nb, COUNT).append("x0")
        self.same(decisive(self.nb, COUNT), [])


class TestDecisive(Case):
    def setUp(self):
        self.r = goods("r", 5)
        self.nb = Notebook([self.r])

    def test_no_label(self):
        self.nb.put("c", ("r", ()))
        self.same(decisive(self.nb, COUNT), [])
        self.same(self.nb.tries(), [(COUNT, ())])

    def test_under_several_settings_in_use(self):
        # Each of both is enough to make it False, so that none decides alone while both do.
        self.nb.put("c", ("r", (choose("y", (), [("first", 1)]), choose("b", (), [("first", 0)]))))
        self.same(decisive(self.nb, COUNT), ["b", "y"])
        self.nb.choose("y", 1)
        self.same(decisive(self.nb, COUNT), ["y"])
        self.nb.choose("b", 1)
        self.same(decisive(self.nb, COUNT), [])
        self.nb.choose("y", 0)
        self.same(decisive(self.nb, COUNT), ["b"])

    def test_unknown_is_a_third_truth(self):
        self.nb.put("c", ("r", (choose("x", [("first", 2)], [("first", 3)]), choose("y", (), [("first", 1)]))))
        claim = ("rises", "c", "cost")
        self.same(decisive(self.nb, claim), ["y"])
        self.nb.choose("y", 1)
        self.same(decisive(self.nb, claim), ["y"])
        falls = ("least", ("mean", "c", "cost"), (1, 1))
        self.nb.put("c", ("r", (choose("x", [("first", 1)], [("first", 0)]),)))
        # False, and unknown.
        self.same(decisive(self.nb, falls), ["x"])
        self.nb.choose("x", 1)
        self.same(decisive(self.nb, falls), ["x"])

    def test_one_other_index_is_enough(self):
        for truths in itertools.product((0, 1, 4), repeat=3):
            self.nb.put("c", ("r", (choose("x", *[[("first", count)] for count in truths]),)))
            claim = ("least", ("mean", "c", "cost"), (1, 1))
            for used in range(3):
                self.nb.choose("x", used)
                self.same(decisive(self.nb, claim), [] if len(set(truths)) == 1 else ["x"])

    def test_too_large_counts_as_unknown(self):
        r = goods("r", 300)
        nb = Notebook([r])
        large = [("union", "r"), ("union", "r"), ("union", "r")]
        nb.put("c", ("r", (choose("x", large, (), large + [("first", 0)], [("first", 0)]),)))
        # Unknown, True, unknown, unknown.
        claim = ("least", ("mean", "c", "cost"), (0, 1))
        self.same(decisive(nb, claim), ["x"])
        nb.choose("x", 1)
        self.same(decisive(nb, claim), ["x"])
        nb.put("c", ("r", (choose("x", large, [("first", 0)]),)))
        self.same(decisive(nb, claim), [])
        self.same(nb.evaluated(), [])

    def test_labels_through_others(self):
        self.nb.put("d", ("r", (choose("far", (), [("first", 1)]),)))
        self.nb.put("c", ("r", (choose("near", (), [("first", 0), ("union", "d")]),)))
        self.same(decisive(self.nb, COUNT), [])
        self.nb.choose("near", 1)
        self.same(decisive(self.nb, COUNT), ["far"])
        self.nb.choose("far", 1)
        self.same(decisive(self.nb, COUNT), ["far", "near"])


class TestTries(Case):
    def setUp(self):
        self.r = goods("r", 5)
        self.nb = Notebook([self.r])
        self.nb.put("c", ("r", (choose("y", (), [("first", 1)], [("first", 2)]), choose("b", (), [("first", 0)]))))

    def indexes(self):
        return [(setting[0][1], setting[1][1]) for claim, setting in self.nb.tries()]

    def test_robustness_ascending(self):
        robustness(self.nb, COUNT)
        self.same(self.indexes(), [(0, 0), (0, 1), (0, 2), (1, 0), (1, 1), (1, 2)])
        self.same(self.nb.tries()[1], (COUNT, (("b", 0), ("y", 1))))

    def test_decisive(self):
        self.nb.choose("y", 1)
        self.nb.choose("b", 1)
        decisive(self.nb, COUNT)
        # The setting in use, then b, then y, each with all its other indexes.
        self.same(self.indexes(), [(1, 1), (0, 1), (1, 0), (1, 2)])

    def test_mixed(self):
        truth(self.nb, COUNT, setting={"y": 2})
        self.nb.choose("y", 1)
        decisive(self.nb, COUNT)
        self.same(self.indexes(), [(0, 2), (0, 1), (1, 1), (0, 0)])
        robustness(self.nb, COUNT)
        self.same(self.indexes(), [(0, 2), (0, 1), (1, 1), (0, 0), (1, 0), (1, 2)])
        for call in (truth, decisive, robustness):
            call(self.nb, COUNT)
        self.assertEqual(len(self.nb.tries()), 6)

    def test_cells_put_anew_between(self):
        truth(self.nb, COUNT)
        self.nb.put("c", ("r", (choose("y", (), [("first", 1)]),)))
        decisive(self.nb, COUNT)
        self.nb.put("c", ("r", ()))
        robustness(self.nb, COUNT)
        self.nb.put("c", ("r", (choose("y", (), [("first", 4)]),)))
        robustness(self.nb, COUNT)
        self.same(self.nb.tries(), [
            (COUNT, (("b", 0), ("y", 0))), (COUNT, (("y", 0),)), (COUNT, (("y", 1),)), (COUNT, ())])

    def test_refused_ones_are_not_listed(self):
        self.refused(BadClaim, decisive, self.nb, ("least", ("count", "d", "cost"), (2, 1)))
        self.refused(BadClaim, robustness, self.nb, ("least", ("count", "c", "cost"), (2, 4)))
        self.same(self.nb.tries(), [])

    def test_too_large_ones_are_listed(self):
        nb = Notebook([goods("r", 300)])
        nb.put("c", ("r", (choose("x", (), [("union", "r"), ("union", "r"), ("union", "r")]),)))
        nb.choose("x", 1)
        self.refused(TooLarge, truth, nb, COUNT)
        self.same(nb.tries(), [(COUNT, (("x", 1),))])
        decisive(nb, COUNT)
        robustness(nb, COUNT)
        self.same(nb.tries(), [(COUNT, (("x", 1),)), (COUNT, (("x", 0),))])
        self.same(nb.evaluated(), ["c"])


class TestByChance(Case):
    def told(self, nb, claim, setting):
        twin = nb.twin()
        for label, index in setting:
            twin.choose(label, index)
        try:
            return truth(twin, claim)
        except TooLarge:
            return None

    def some_notebook(self, chance):
        r = Register("r", (("item", "word"), ("cost", "number")))
        for turn in range(chance.randint(0, 6)):
            r.add(reference.some_row(chance, r.columns()), author="bo")
        nb = Notebook([r])
        tables = {"r": r.columns()}
        numbers = {}
        for name in ("c", "d", "e"):
            pipeline = reference.some_pipeline(chance, tables, check, (BadStep, UnknownName), numbers, most=4)
            nb.put(name, pipeline)
            tables[name] = nb.columns(name)
            numbers.update(dict(nb.labels(name)))
        return nb

    def test_against_every_choice(self):
        chance = random.Random(20)
        decided = 0
        for turn in range(800):
            nb = self.some_notebook(chance)
            cell = chance.choice(("c", "d", "e"))
            column = chance.choice(nb.columns(cell))[0]
            claim = ("least", ("count", cell, column), (chance.randint(0, 4), 1))
            if chance.random() < 0.5:
                claim = ("share", cell, reference.some_expression(chance, nb.columns(cell), "flag"), (1, 3))
            for label in nb.setting():
                nb.choose(label, chance.randint(0, 1))
            labels = labels_for(nb, claim)
            settings = list(itertools.product(*[[(label, index) for index in range(count)] for label, count in labels]))
            truths = [self.told(nb, claim, setting) for setting in settings]
            self.same(robustness(nb, claim), tuple(
                [[setting for setting, told in zip(settings, truths) if told is wanted] for wanted in (True, False, None)]))
            used = tuple([(label, nb.setting()[label]) for label, count in labels])
            now = truths[settings.index(used)]
            expected = []
            for at, (label, count) in enumerate(labels):
                beside = [told for setting, told in zip(settings, truths)
                          if setting[:at] + setting[at + 1:] == used[:at] + used[at + 1:]]
                if any(told is not now for told in beside):
                    expected.append(label)
            self.same(decisive(nb, claim), expected)
            decided += len(expected)
        self.assertGreater(decided, 20)


if __name__ == "__main__":
    unittest.main()
