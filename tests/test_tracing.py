"""Promises [26] and [27]: from rows to holes and back, and changes."""

import random
import unittest

import editions
from common import ODD_THINGS, Case, col, goods, number, prices
from editions import edition_of
from liveclaims.errors import NoLine, UnknownName
from liveclaims.judging import judge
from liveclaims.registers import Register
from liveclaims.tracing import alike_bars, changes, holes_of, rows_of
from test_judging import REPORT, SENTENCES, whole


def costs(*values):
    r = Register("r", (("cost", "number"),))
    for value in values:
        r.add((value,), author="bo")
    return r


def bar(cell, low=(0, 1), high=(10, 1), width=10, function="sum"):
    return ("bar", (function, cell, "cost"), low, high, width)


class TestExamples(Case):
    def test_holes_and_rows(self):
        self.same((holes_of(REPORT, "prices", 1), holes_of(REPORT, "prices", 0), rows_of(REPORT, 0, 1)),
                  ([(0, 1), (1, 0)], [], (("prices", 1),)))
        self.same(holes_of(edition=REPORT, origin="prices", number=1), [(0, 1), (1, 0)])
        self.same(rows_of(edition=REPORT, line=1, part=0), (("prices", 1),))

    def test_changes(self):
        r = prices()
        self.same(changes([r], REPORT), [])
        r.strike(1, author="ed")
        self.same(changes([r], REPORT), [(0, 1, "181.0", None), (1, 0, "count of cost in dear is at least 1", None)])
        self.same(changes(registers=[r], edition=REPORT), changes([r], REPORT))
        self.assertIsNone(judge([r], REPORT))


class TestHoles(Case):
    def setUp(self):
        self.r, self.edition = whole()

    def test_in_order(self):
        holes = [(line, at) for line, sentence in enumerate(SENTENCES) for at, part in enumerate(sentence) if part[0] != "text"]
        self.same(holes_of(self.edition, "r", 0), holes)
        # Row 3 is not in the cell one.
        self.same(holes_of(self.edition, "r", 3), [hole for hole in holes if hole != (2, 3)])

    def test_no_lineage_has_it(self):
        for name, row in (("r", 4), ("r", -1), ("s", 0), ("all", 0), ("", 0), ("R", 0)):
            self.same(holes_of(self.edition, name, row), [])

    def test_only_integers_name_a_row(self):
        for row in (True, False, 0.0, 1.0):
            self.same(holes_of(self.edition, "r", row), [])

    def test_rows(self):
        every = tuple(("r", at) for at in range(4))
        for hole in holes_of(self.edition, "r", 0):
            self.same(rows_of(self.edition, *hole), every if hole != (2, 3) else (("r", 0),))

    def test_no_such_hole(self):
        for line, part in ((0, 0), (0, 2), (0, 4), (1, 1), (4, 0), (5, 0), (-1, 0), (0, -1), (-5, 1)):
            self.same(self.refused(NoLine, rows_of, self.edition, line, part).number, line)

    def test_any_value(self):
        for thing in ODD_THINGS:
            if thing is True or thing is False or thing not in (0, 1):
                found = self.refused(NoLine, rows_of, self.edition, thing, 0)
                self.assertIs(found.number, thing)
                self.same(self.refused(NoLine, rows_of, self.edition, 1, thing).number, 1)
                self.refused(NoLine, rows_of, self.edition, thing, thing)
        for line, part in ((True, 0), (1, False), (1.0, 0), (1, 0.0), (False, True), (0, 1.0)):
            self.assertIs(self.refused(NoLine, rows_of, self.edition, line, part).number, line)

    def test_lists_belong_to_the_caller(self):
        holes_of(self.edition, "r", 0).clear()
        self.assertEqual(len(holes_of(self.edition, "r", 0)), 10)

    def test_rows_of_several_registers(self):
        a, b = goods("a", 3), goods("b", 2)
        cells = (("c", ("a", (("rename", "cost", "price"), ("join", "b", ("item", "sold"))))), ("d", ("b", ())))
        sentences = ((("number", ("count", "c", "item"), 0), ("number", ("count", "d", "item"), 0)),
                     (("claim", ("least", ("count", "d", "item"), (1, 1)), ()),
                      ("claim", ("more", ("count", "d", "cost"), ("count", "c", "item"), (-1, 1)), ())))
        edition = edition_of([a, b], cells, sentences)
        self.assertIsNone(judge([a, b], edition))
        self.same(holes_of(edition, "a", 0), [(0, 0), (1, 1)])
        self.same(holes_of(edition, "a", 2), [])
        self.same(holes_of(edition, "b", 1), [(0, 0), (0, 1), (1, 0), (1, 1)])
        self.same(rows_of(edition, 1, 1), (("a", 0), ("a", 1), ("b", 0), ("b", 1)))


class TestChanges(Case):
    def test_nothing_changes(self):
        r, edition = whole()
        self.same(changes([r], edition), [])
        r.correct(0, ("a", (0, 1), True), author="bo")
        self.same(changes([r], edition), [])

    def test_printed_otherwise(self):
        r = costs((1, 1), (2, 1))
        edition = edition_of([r], [("c", ("r", ()))], ((("number", ("sum", "c", "cost"), 1), ("text", " "), bar("c")),
                                                      (("claim", ("least", ("sum", "c", "cost"), (2, 1)), ()),)))
        r.add(((3, 2),), author="bo")
        self.same(changes([r], edition), [(0, 0, "3.0", "4.5"), (0, 2, "###", "#####")])
        r.add(((6, 1),), author="bo")
        self.same(changes([r], edition), [(0, 0, "3.0", "10.5"), (0, 2, "###", None)])
        r.correct(3, ((-6, 1),), author="bo")
        self.same(changes([r], edition), [
            (0, 0, "3.0", "-1.5"), (0, 2, "###", None), (1, 0, "sum of cost in c is at least 2", None)])
        r.strike(3, author="bo")
        r.strike(2, author="bo")
        self.same(changes([r], edition), [])

    def test_printed_alike_although_the_value_is_another(self):
        r = costs((1, 1), (2, 1))
        edition = edition_of([r], [("c", ("r", ()))], ((("number", ("sum", "c", "cost"), 0), ("text", " "), bar("c")),
                                                      (("claim", ("least", ("sum", "c", "cost"), (2, 1)), ()),)))
        r.correct(0, ((3, 4),), author="bo")
        self.same(changes([r], edition), [])
        r.correct(0, ((1, 4),), author="bo")
        self.same(changes([r], edition), [(0, 0, "3", "2"), (0, 2, "###", "##")])

    def test_missing_and_unknown_now(self):
        r = costs((1, 1), (2, 1))
        edition = edition_of([r], [("c", ("r", ()))], ((("number", ("mean", "c", "cost"), 0), bar("c", function="least")),
                                                      (("claim", ("rises", "c", "cost"), ()), ("number", ("count", "c", "cost"), 0))))
        r.correct(0, (None,), author="bo")
        self.same(changes([r], edition), [
            (0, 1, "#", "##"), (1, 0, "cost rises in c", None), (1, 1, "2", "1")])
        r.correct(1, (None,), author="bo")
        self.same(changes([r], edition), [
            (0, 0, "2", None), (0, 1, "#", None), (1, 0, "cost rises in c", None), (1, 1, "2", "0")])

    def test_over_the_rows_now_for_an_edition_of_the_past(self):
        r = costs((1, 1), (2, 1), (3, 1))
        early = edition_of([r], [("c", ("r", ()))], ((("number", ("sum", "c", "cost"), 0),),), versions=(("r", 1),))
        self.same(changes([r], early), [(0, 0, "1", "6")])

    def test_too_large_now(self):
        r = goods("r", 300)
        cells = (("c", ("r", (("union", "r"), ("union", "r")))), ("d", ("c", (("first", 2),))), ("e", ("r", (("union", "d"),))))
        claim = ("more", ("count", "c", "item"), ("count", "e", "item"), (5, 1))
        edition = edition_of([r], cells, ((("number", ("count", "c", "item"), 0), ("number", ("count", "d", "item"), 0)),
                                         (("claim", claim, ()), ("number", ("count", "e", "item"), 0))))
        self.same(edition[5], ("9002", "count of item in c is greater than count of item in e by more than 5302"))
        for turn in range(33):
            r.add(("a", None, None), author="bo")
        # 999 rows are few enough.
        self.same(changes([r], edition), [(0, 0, "900", "999"), (1, 1, "302", "335")])
        r.add(("a", None, None), author="bo")
        words = "count of item in c is greater than count of item in e by more than 5"
        self.same(changes([r], edition), [
            (0, 0, "900", None), (0, 1, "2", None), (1, 0, words, None), (1, 1, "302", None)])
        r.strike(0, author="bo")
        self.same(changes([r], edition), [(0, 0, "900", "999"), (1, 1, "302", "335")])

    def test_a_cell_that_is_too_large_elsewhere(self):
        r = goods("r", 300)
        cells = (("big", ("r", (("union", "r"), ("union", "r")))), ("c", ("r", ())))
        edition = edition_of([r], cells, ((("number", ("count", "c", "item"), 0), ("number", ("count", "big", "item"), 0)),))
        for turn in range(40):
            r.add(("a", None, None), author="bo")
        self.same(changes([r], edition), [(0, 0, "300", "340"), (0, 1, "900", None)])

    def test_lacking_registers(self):
        a, b, c = goods("a", 2), goods("b", 2), goods("c", 1)
        edition = edition_of([c, b, a], [("z", ("b", ()))], ((("number", ("count", "z", "item"), 0),),))
        self.same(self.refused(UnknownName, changes, [], edition).key, "a")
        self.same(self.refused(UnknownName, changes, [c], edition).key, "a")
        self.same(self.refused(UnknownName, changes, [c, a], edition).key, "b")
        self.same(self.refused(UnknownName, changes, [b, a], edition).key, "c")
        self.same(changes([c, b, a], edition), [])

    def test_more_registers_beside(self):
        r, edition = whole()
        # One has the name of a cell.
        beside = [goods("all", 7), r, goods("z", 1)]
        self.same(changes(beside, edition), [])
        r.strike(3, author="bo")
        self.assertEqual(len(changes(beside, edition)), len(changes([r], edition)))

    def test_nothing_is_modified(self):
        r, edition = whole()
        r.strike(0, author="bo")
        twin, before = r.twin(), repr(edition)
        changes([r], edition).clear()
        self.assertNotEqual(changes([r], edition), [])
        self.assertEqual(r, twin)
        self.same(repr(edition), before)

    def test_against_what_the_same_things_give_now(self):
        chance = random.Random(27)
        for turn in range(150):
            r, edition = whole()
            for entry in range(chance.randint(0, 4)):
                row = chance.choice(r.rows())[0] if len(r) else None
                word = chance.choice(("add", "correct", "strike"))
                values = (chance.choice("abcd"), chance.choice((None, (0, 1), (3, 1), (5, 2))), chance.choice((None, True, False)))
                if word == "add" or row is None:
                    r.add(values, author="bo")
                elif word == "correct":
                    r.correct(row, values, author="bo")
                else:
                    r.strike(row, author="bo")
            tables = editions.tables_over([r], None, edition[3])
            expected = []
            for line, at, value, lineage in edition[6]:
                hole = edition[4][line][at]
                old = editions.text_of(editions.tables_over([r], edition[2], edition[3]), hole)
                new = editions.text_of(tables, hole)
                if old != new:
                    expected.append((line, at, old, new))
            self.same(changes([r], edition), expected)
            self.assertIsNone(judge([r], edition))

    def test_rows_outside_of_every_lineage(self):
        # The cell is simple: struck rows that are in no lineage change no hole.
        r = goods("r", 8)
        cells = (("c", ("r", (("keep", ("less", col("cost"), number(4))), ("group", ("sold",), (("m", "mean", "cost"),))))),)
        edition = edition_of([r], cells, ((("number", ("sum", "c", "m"), 2),),))
        for row in range(8):
            found = holes_of(edition, "r", row)
            r2 = r.twin()
            r2.strike(row, author="bo")
            if row >= 4:
                self.same((found, changes([r2], edition)), ([], []))
            else:
                self.same((found, len(changes([r2], edition))), ([(0, 0)], 1))


class TestAlikeBars(Case):
    def made(self, *bars, values=((41, 10), (39, 10), (9, 2), (41, 10))):
        r = costs(*values)
        cells = tuple(("c" + str(at), ("r", (("keep", ("same", col("cost"), ("value", value))), ("first", 1))))
                      for at, value in enumerate(values))
        return edition_of([r], cells, tuple((("text", "a "), held) for held in bars))

    def test_alike(self):
        # 4.1 and 3.9 of 10 are both four signs, 4.5 are five; c0 and c3 have equal values.
        edition = self.made(bar("c0"), bar("c1"), bar("c2"), bar("c3"))
        self.same(alike_bars(edition), [((0, 1), (1, 1)), ((1, 1), (3, 1))])
        self.same(alike_bars(edition=edition), alike_bars(edition))

    def test_in_order(self):
        edition = self.made(bar("c0"), bar("c1"), bar("c2"), values=((41, 10), (4, 1), (39, 10)))
        self.same(alike_bars(edition), [((0, 1), (1, 1)), ((0, 1), (2, 1)), ((1, 1), (2, 1))])

    def test_in_one_line(self):
        r = costs((41, 10), (4, 1))
        cells = tuple(("c" + str(at), ("r", (("sort", "cost", order), ("first", 1)))) for at, order in enumerate(("up", "down")))
        edition = edition_of([r], cells, ((bar("c0"), ("text", "a"), bar("c1")), (bar("c0"), bar("c1"))))
        self.same(alike_bars(edition), [((0, 0), (0, 2)), ((0, 0), (1, 1)), ((0, 2), (1, 0)), ((1, 0), (1, 1))])

    def test_another_scale(self):
        for other in (bar("c1", low=(-1, 9)), bar("c1", high=(11, 1)), bar("c1", width=9), bar("c1", width=11)):
            self.same(alike_bars(self.made(bar("c0"), other)), [])
        for other in (bar("c1", low=(1, 9)), bar("c1", high=(19, 2))):
            edition = self.made(bar("c0"), other)
            self.same(edition[5][0], edition[5][1])
            self.same(alike_bars(edition), [])

    def test_equal_values(self):
        self.same(alike_bars(self.made(bar("c0"), bar("c0"), bar("c3"))), [])
        self.same(alike_bars(self.made(bar("c0"), bar("c0", function="mean"))), [])

    def test_other_functions(self):
        edition = self.made(bar("c0"), bar("c1", function="greatest"))
        self.same(alike_bars(edition), [((0, 1), (1, 1))])

    def test_no_bars(self):
        self.same(alike_bars(REPORT), [])
        self.same(alike_bars(("a", 1, (), (), (), (), ())), [])
        numbers = self.made(("number", ("sum", "c0", "cost"), 0), ("number", ("sum", "c1", "cost"), 0))
        self.same(alike_bars(numbers), [])

    def test_empty_bars(self):
        edition = self.made(bar("c0", high=(1000, 1)), bar("c1", high=(1000, 1)))
        self.same(edition[5], ("a ", "a "))
        self.same(alike_bars(edition), [((0, 1), (1, 1))])


if __name__ == "__main__":
    unittest.main()
