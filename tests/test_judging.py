"""Promises [24], [25] and [5] (e): the judge, over editions that are written by hand or by chance."""

import random
import unittest

import editions
import reference
from common import GOODS, LIMIT, ODD_THINGS, Case, col, goods, number, prices
from editions import edition_of, second_judge
from liveclaims.errors import BadStep, UnknownName
from liveclaims.judging import judge
from liveclaims.registers import Register
from liveclaims.steps import check

DEAR = ("dear", ("prices", (("keep", ("less", number(175), col("cost"))),)))
# The edition of the document's setup p.
REPORT = (
    "report", 1, (("prices", 4),), (DEAR,),
    ((("text", "mean "), ("number", ("mean", "dear", "cost"), 1)), (("claim", ("least", ("count", "dear", "cost"), (1, 1)), ()),)),
    ("mean 181.0", "count of cost in dear is at least 1"),
    ((0, 1, (181, 1), (("prices", 1),)), (1, 0, True, (("prices", 1),))),
)

CITED = ((("report", 1, 0, 0), ("later", 2, 39, 11)), (("a", 10 ** 20, 0, 0),))
CLAIMS = (
    ("least", ("sum", "all", "cost"), (6, 1)), ("most", ("only", "one", "cost"), (0, 1)),
    ("more", ("count", "all", "sold"), ("count", "one", "item"), (1, 2)), ("share", "all", col("sold"), (1, 3)),
    ("rises", "all", "cost"), ("top", "all", "item", "d", "cost"),
)
# A sentence of each kind of hole, and one of texts alone.
SENTENCES = (
    (("text", "sum "), ("number", ("sum", "all", "cost"), 0), ("text", ", mean "), ("number", ("mean", "all", "cost"), 9)),
    (("bar", ("greatest", "all", "cost"), (0, 1), (4, 1), 10), ("text", "|"), ("bar", ("least", "all", "cost"), (-1, 2), (5, 2), 60)),
    (("text", "It is said that "), ("claim", CLAIMS[0], CITED), ("text", "; "), ("claim", CLAIMS[1], ())),
    (("claim", CLAIMS[2], CITED[:1]), ("text", " and "), ("claim", CLAIMS[3], ()), ("claim", CLAIMS[4], ()), ("claim", CLAIMS[5], ())),
    (("text", "no number"), ("text", " "), ("text", "~" * 80)),
)
CELLS = (("all", ("r", ())), ("one", ("all", (("first", 1),))))


def whole():
    """A register and an edition of each kind of hole."""
    r = goods("r", 4)
    return r, edition_of([r], CELLS, SENTENCES)


def put(thing, path, value):
    """The nested tuple with another value at a path."""
    if not path:
        return value
    return thing[:path[0]] + (put(thing[path[0]], path[1:], value),) + thing[path[0] + 1:]


def at_path(thing, path):
    for at in path:
        thing = thing[at]
    return thing


def paths_in(thing):
    """All places in a nested tuple, the whole first."""
    found = [()]
    if isinstance(thing, tuple):
        for at, part in enumerate(thing):
            found.extend([(at,) + path for path in paths_in(part)])
    return found


class TestExamples(Case):
    def test_accepted(self):
        self.assertIsNone(judge([prices()], REPORT))
        self.assertIsNone(judge(registers=[prices()], edition=REPORT))

    def test_another_line(self):
        self.same(judge([prices()], REPORT[:5] + (("mean 181", REPORT[5][1]),) + REPORT[6:]), ("line", 0, None))

    def test_the_second_way_agrees(self):
        self.assertEqual(edition_of([prices()], (DEAR,), REPORT[4]), REPORT)


class TestAccepted(Case):
    def test_each_kind_of_hole(self):
        r, edition = whole()
        self.same(edition[5], (
            "sum 6, mean 1.500000000",
            "########|##########",
            "It is said that sum of cost in all is at least 6; only of cost in one is at most 0",
            "count of sold in all is greater than count of item in one by more than 1/2 and more than 1/3 of all have sold"
            "cost rises in alld has the greatest cost in all",
            "no number " + "~" * 80))
        self.assertIsNone(judge([r], edition))

    def test_nothing_is_modified(self):
        r, edition = whole()
        twin, before = r.twin(), repr(edition)
        registers = [r]
        judge(registers, edition)
        judge(registers, put(edition, (5, 0), "a"))
        self.assertEqual(r, twin)
        self.same(repr(edition), before)
        self.assertEqual(registers, [r])

    def test_empty(self):
        r = goods("r", 1)
        self.assertIsNone(judge([r], ("a", 1, (), (), (), (), ())))
        self.assertIsNone(judge([], ("a", 1, (), (), (), (), ())))
        self.assertIsNone(judge([r], ("a", 1, (("r", 0),), (), (), (), ())))
        self.assertIsNone(judge([r], ("a", 10 ** 30, (), (), ((("text", "a"),),), ("a",), ())))

    def test_more_registers_beside(self):
        r, edition = whole()
        beside = [goods("a", 2), r, goods("all", 3), goods("z", 1)]
        # A cell may have the name of a register that is not among the versions.
        self.assertIsNone(judge(beside, edition))
        self.assertIsNone(judge(list(reversed(beside)), edition))
        self.same(judge(beside, put(edition, (2,), (("all", 1), ("r", 4)))), ("cell", "all"))

    def test_registers_that_are_not_read(self):
        r, edition = whole()
        s = goods("s", 2)
        self.assertIsNone(judge([s, r], put(edition, (2,), (("r", 4), ("s", 2)))))
        self.assertIsNone(judge([s, r], put(edition, (2,), (("r", 4), ("s", 0)))))

    def test_versions_of_the_past(self):
        r, edition = whole()
        r.add(("e", (9, 1), True), author="bo")
        r.strike(0, author="bo")
        r.correct(1, ("b", None, None), author="bo")
        self.assertIsNone(judge([r], edition))
        # The same edition of today is another one.
        self.same(judge([r], put(edition, (2, 0, 1), r.version())), ("line", 0, 1))
        for version in range(r.version() + 1):
            made = edition_of([r], CELLS, SENTENCES[4:], versions=(("r", version),))
            self.assertIsNone(judge([r], made))
            count = (("number", ("count", "all", "item"), 0),)
            made = edition_of([r], CELLS, (count,), versions=(("r", version),))
            self.same(made[5], (str(len(r.rows(version))),))
            self.assertIsNone(judge([r], made))

    def test_copies_of_the_registers(self):
        r, edition = whole()
        self.assertIsNone(judge([r.twin()], edition))
        other = goods("r", 3)
        self.same(judge([other], edition), ("register", "r"))
        other.add(("d", (4, 1), False), author="bo")
        self.same(judge([other], edition), ("line", 0, 1))
        longer = goods("r", 5)
        self.assertIsNone(judge([longer], edition))

    def test_cells_that_are_not_used(self):
        r, edition = whole()
        more = edition[3] + (("b", ("one", (("distinct",),))), ("a", ("b", (("union", "r"),))))
        self.assertIsNone(judge([r], put(edition, (3,), more)))
        # Not in dependency order otherwise than that each reads earlier ones.
        self.assertIsNone(judge([r], put(edition, (3,), (("z", ("r", ())),) + edition[3])))

    def test_more_than_a_notebook_or_a_paper_may_have(self):
        r = goods("r", 4)
        cells = [("c0", ("r", ()))] + [("c" + str(at), ("c" + str(at - 1), ())) for at in range(1, 60)]
        sentences = [(("text", "a"), ("number", ("count", "c" + str(at % 60), "cost"), 1)) for at in range(70)]
        edition = edition_of([r], cells, sentences)
        self.assertIsNone(judge([r], edition))
        self.same(judge([r], put(edition, (5, 69), "a4.1")), ("line", 69, None))
        many = [goods("r" + str(at), 1) for at in range(9)]
        self.assertIsNone(judge(many, edition_of(many, [("c", ("r8", ()))], ())))

    def test_forty_steps(self):
        r = goods("r", 4)
        for steps in (11, 39, 40):
            cell = ("all", ("r", (("distinct",),) * steps))
            self.assertIsNone(judge([r], edition_of([r], (cell, CELLS[1]), SENTENCES)))
        edition = put(edition_of([r], CELLS, SENTENCES), (3, 0, 1, 1), (("distinct",),) * 41)
        self.same(judge([r], edition), ("cell", "all"))

    def test_numbers_beyond_the_limit(self):
        r = Register("r", (("cost", "number"),))
        for at in range(3):
            r.add(((LIMIT, 1),), author="bo")
        r.add(((1, LIMIT - 1),), author="bo")
        edition = edition_of([r], [("c", ("r", ()))], ((("number", ("sum", "c", "cost"), 2),),))
        self.same(edition[5], ("3" + "0" * 40 + ".00",))
        self.assertIsNone(judge([r], edition))


class TestForm(Case):
    def setUp(self):
        self.r, self.edition = whole()

    def wrong(self, edition):
        self.same(judge([self.r], edition), ("form",))

    def test_any_value(self):
        for thing in ODD_THINGS + (list(self.edition), self.edition[:6], self.edition + ((),), (), (1,) * 7, ("a", 1) + ((),) * 4):
            self.wrong(thing)

    def test_paper_and_number(self):
        for thing in ODD_THINGS:
            if thing not in ("a",):
                self.wrong(put(self.edition, (0,), thing))
        for thing in ODD_THINGS:
            if thing is True or not isinstance(thing, int) or thing < 1:
                self.wrong(put(self.edition, (1,), thing))
        for thing in (True, 0, -1, 1.0, "1", False):
            self.wrong(put(self.edition, (1,), thing))

    def test_five_tuples(self):
        for at in range(2, 7):
            for thing in ODD_THINGS:
                if not isinstance(thing, tuple):
                    self.wrong(put(self.edition, (at,), thing))
            self.wrong(put(self.edition, (at,), list(self.edition[at])))

    def test_what_they_consist_of(self):
        for at in (2, 3):
            last = len(self.edition[at]) - 1
            for thing in ODD_THINGS + (["r", 4], ("r",), ("r", 4, 4), (1, 4), ("R", 4), (None, 4)):
                if thing != ("a", "b"):
                    self.wrong(put(self.edition, (at, last), thing))
            for thing in ODD_THINGS:
                if thing != "a":
                    self.wrong(put(self.edition, (at, last, 0), thing))
        for thing in ODD_THINGS + ((0, 1, 2), (0, 1, 2, 3, 4), [0, 1, 2, 3]):
            self.wrong(put(self.edition, (6, 3), thing))
        for thing in ODD_THINGS:
            if thing is True or thing is False or not isinstance(thing, int):
                self.wrong(put(self.edition, (6, 3, 0), thing))
                self.wrong(put(self.edition, (6,), self.edition[6] + ((thing, 0, True, ()),)))
        for thing in ODD_THINGS:
            if not isinstance(thing, tuple):
                self.wrong(put(self.edition, (4, 3), thing))
            if not isinstance(thing, str):
                self.wrong(put(self.edition, (5, 3), thing))

    def test_as_many_lines_as_sentences(self):
        self.wrong(put(self.edition, (5,), self.edition[5][:4]))
        self.wrong(put(self.edition, (5,), self.edition[5] + ("a",)))
        self.wrong(put(self.edition, (4,), self.edition[4][1:]))
        self.wrong(put(self.edition, (4,), self.edition[4] + ((),)))

    def test_ahead_of_all_else(self):
        wrong = put(put(self.edition, (2, 0, 1), 99), (6, 0, 0), None)
        self.wrong(wrong)
        self.wrong(put(put(self.edition, (3, 0, 1), None), (5,), ()))


class TestRegisters(Case):
    def setUp(self):
        self.r, self.edition = whole()
        self.s = goods("s", 2)
        self.t = goods("t", 3)

    def told(self, versions, name, registers=None):
        found = judge([self.t, self.r, self.s] if registers is None else registers, put(self.edition, (2,), versions))
        self.same(found, None if name is None else ("register", name))

    def test_accepted(self):
        self.told((("r", 4), ("s", 2), ("t", 3)), None)
        self.told((("r", 4), ("t", 0)), None)

    def test_names(self):
        self.told((("q", 1), ("r", 4)), "q")
        self.told((("r", 4), ("rr", 1)), "rr")
        self.told((("r", 4),), "r", [self.s])
        self.told((("r", 4),), "r", [])

    def test_order(self):
        self.told((("r", 4), ("r", 4)), "r")
        self.told((("r", 4), ("t", 1), ("s", 1)), "s")
        self.told((("s", 1), ("r", 4)), "r")
        self.told((("r", 4), ("t", 1), ("s", 1), ("t", 1)), "s")
        self.told((("r", 4), ("s", 1), ("s", 1), ("r", 9)), "s")

    def test_versions(self):
        for version in ODD_THINGS:
            if version is True or version is False or not isinstance(version, int) or version not in (0, 1):
                self.told((("r", 4), ("s", version)), "s")
        for version in (5, -1, True, False, 4.0, "4", None, (4,)):
            self.told((("r", version), ("q", 1)), "r")

    def test_the_first_one(self):
        self.told((("a", 1), ("b", 1)), "a")
        self.told((("r", 5), ("a", 1)), "r")

    def test_ahead_of_the_cells(self):
        wrong = put(put(self.edition, (2,), (("r", 9),)), (3, 0, 1), None)
        self.same(judge([self.r], wrong), ("register", "r"))


class TestCells(Case):
    def setUp(self):
        self.r, self.edition = whole()

    def told(self, cells, name):
        self.same(judge([self.r], put(self.edition, (3,), tuple(cells))), ("cell", name))

    def test_names(self):
        self.told(CELLS + (("all", ("r", ())),), "all")
        self.told(CELLS + (("r", ("all", ())),), "r")
        self.told((("r", ("r", ())),) + CELLS, "r")

    def test_any_value_as_pipeline(self):
        for thing in ODD_THINGS:
            self.told((("all", thing),) + CELLS[1:], "all")
            self.told(CELLS + (("z", thing),), "z")
            self.told(CELLS + (("z", ("r", thing)),) if thing != () else (("z", thing),), "z")
            self.told(CELLS + (("z", ("r", (thing,))),), "z")
            self.told(CELLS + (("z", ("r", (("keep", thing),))),), "z")

    def test_what_it_reads(self):
        self.told((("all", ("s", ())), CELLS[1]), "all")
        self.told((CELLS[1], CELLS[0]), "one")
        self.told((("all", ("all", ())), CELLS[1]), "all")
        self.told((("all", ("r", (("union", "one"),))), CELLS[1]), "all")
        # A register that is there, but not among the versions.
        s = goods("s", 1)
        self.same(judge([self.r, s], put(self.edition, (3,), (("z", ("s", ())),) + CELLS)), ("cell", "z"))

    def test_true_for_one(self):
        self.told((CELLS[0], ("one", ("all", (("first", True),)))), "one")
        self.told((CELLS[0], ("one", ("all", (("sample", 1, True, 0),)))), "one")
        self.told((CELLS[0], ("one", ("all", (("keep", ("value", 1)),)))), "one")
        self.told((CELLS[0], ("one", ("all", (("keep", ("less", ("value", (True, 1)), col("cost"))),)))), "one")

    def test_no_choose(self):
        self.told((("all", ("r", (("choose", "x", ((), ())),))), CELLS[1]), "all")
        self.told(CELLS + (("z", ("r", (("distinct",), ("choose", "x", ((), ()))))),), "z")

    def test_too_large(self):
        r = goods("r", 300)
        ok, big = ("c", ("r", (("union", "r"), ("union", "r")))), ("d", ("r", (("union", "c"),)))
        number_of = (("number", ("count", "c", "item"), 0),)
        edition = edition_of([r], (ok,), (number_of,))
        self.assertIsNone(judge([r], edition))
        self.same(judge([r], put(edition, (3,), (ok, big))), ("cell", "d"))
        self.same(judge([r], put(edition, (3,), (ok, big, ("a", None)))), ("cell", "d"))
        self.same(judge([r], put(edition, (3,), (ok, ("a", None), big))), ("cell", "a"))
        # At these versions, not now.
        early = edition_of([r], (ok, big), (number_of,), versions=(("r", 250),))
        self.same(early[5], ("750",))
        self.assertIsNone(judge([r], early))
        self.assertIsNone(judge([r], edition_of([r], (ok, big), (number_of,), versions=(("r", 250),))))
        self.same(judge([r], put(early, (2, 0, 1), 251)), ("cell", "d"))
        for at in range(60):
            r.strike(at, author="bo")
        self.assertIsNone(judge([r], early))
        self.same(judge([r], put(early, (2, 0, 1), 300)), ("cell", "d"))
        now = edition_of([r], (ok, big), (number_of,))
        self.same(now[5], ("720",))
        self.assertIsNone(judge([r], now))

    def test_ahead_of_the_lines(self):
        wrong = put(put(self.edition, (3, 1, 1), None), (5, 0), "wrong")
        self.same(judge([self.r], wrong), ("cell", "one"))


class TestLines(Case):
    def setUp(self):
        self.r, self.edition = whole()

    def told(self, edition, line, part):
        self.same(judge([self.r], edition), ("line", line, part))

    def test_sentences(self):
        for line in range(5):
            self.told(put(self.edition, (4, line), ()), line, None)
            self.told(put(self.edition, (4, line), (("text", "a"),) * 13), line, None)
        for parts in (1, 12, 13):
            edition = put(put(self.edition, (4, 4), (("text", "a"),) * parts), (5, 4), "a" * parts)
            self.same(judge([self.r], edition), ("line", 4, None) if parts == 13 else None)

    def test_any_value_as_part(self):
        for thing in ODD_THINGS:
            for line, sentence in enumerate(SENTENCES):
                for at in range(len(sentence)):
                    self.told(put(self.edition, (4, line, at), thing), line, at)

    def test_any_value_within_parts(self):
        for path in paths_in(SENTENCES):
            for thing in ODD_THINGS:
                edition = put(self.edition, (4,) + path, thing)
                expected = second_judge([self.r], edition)
                self.same(judge([self.r], edition), expected)
                if len(path) > 1:
                    # A column or bound that fits as well is told by the words, or by the value.
                    self.assertTrue(expected is None or expected[:2] == ("line", path[0]), (path, thing))

    def test_cells_of_registers(self):
        # A measure is about a cell, not about a register.
        self.told(put(self.edition, (4, 0, 1, 1, 1), "r"), 0, 1)
        self.told(put(self.edition, (4, 3, 3, 1, 1), "r"), 3, 3)

    def test_texts(self):
        for words in ("", "a" * 81, "a1", "#", "?", "100%", "\n", "\t", "\x7f", "\xe9", "a\u0660"):
            self.told(put(put(self.edition, (4, 4, 0, 1), words), (5, 4), words + " " + "~" * 80), 4, 0)
        for code in range(300):
            edition = put(put(self.edition, (4, 4, 1, 1), chr(code)), (5, 4), "no number" + chr(code) + "~" * 80)
            good = 32 <= code < 127 and chr(code) not in "0123456789#?%"
            self.same(judge([self.r], edition), None if good else ("line", 4, 1))

    def test_bounds_of_numbers_and_bars(self):
        for places in (-1, 10, True, False, 1.0):
            self.told(put(self.edition, (4, 0, 1, 2), places), 0, 1)
        bar = SENTENCES[1][0]
        for low, high, width in (((0, 1), (4, 1), 0), ((0, 1), (4, 1), 61), ((0, 1), (4, 1), True), ((4, 1), (4, 1), 10),
                                 ((5, 1), (4, 1), 10), ((0, 2), (4, 1), 10), ((0, 1), (8, 2), 10), (0, (4, 1), 10), ((0, 1), 4, 10)):
            self.told(put(self.edition, (4, 1, 0), bar[:2] + (low, high, width)), 1, 0)

    def test_citations(self):
        good = ("a", 1, 0, 0)
        for groups in ((), ((good,),), ((good,) * 4,) * 4, (((("z9", 10 ** 9, 10 ** 9, 10 ** 9)),),)):
            self.assertIsNone(judge([self.r], put(self.edition, (4, 2, 1, 2), groups)))
        for groups in (((good,),) * 5, ((good,) * 5,), ((),), ((good,), ()), [(good,)], ([good],), ((list(good),),), good, (good,), None,
                       ((("a", 0, 0, 0),),), ((("a", 1, -1, 0),),), ((("a", 1, 0, -1),),), ((("A", 1, 0, 0),),), ((("a", True, 0, 0),),),
                       ((("a", 1, False, 0),),), ((("a", 1, 0, False),),), ((("a", 1, 0),),), ((("a", 1, 0, 0, 0),),),
                       ((("a", 1.0, 0, 0),),), ((good, ("a", 1, 0, None)),)):
            self.told(put(self.edition, (4, 2, 1, 2), groups), 2, 1)

    def test_what_cannot_be_printed(self):
        # A claim that is False, one that is unknown, a missing number, a bar out of scale.
        self.told(put(self.edition, (4, 2, 1, 1), ("least", ("sum", "all", "cost"), (7, 1))), 2, 1)
        self.told(put(self.edition, (4, 2, 1, 1), ("least", ("only", "all", "cost"), (0, 1))), 2, 1)
        self.told(put(self.edition, (4, 0, 1, 1), ("only", "all", "cost")), 0, 1)
        self.told(put(self.edition, (4, 1, 0, 1), ("only", "all", "cost")), 1, 0)
        self.told(put(self.edition, (4, 1, 0, 3), (2, 1)), 1, 0)
        self.told(put(self.edition, (4, 1, 2, 2), (1, 9)), 1, 2)

    def test_bars(self):
        r = Register("r", (("cost", "number"),))
        r.add(((1, 1),), author="bo")
        for low, high, width, hashes in (((0, 1), (1, 1), 7, 7), ((1, 1), (2, 1), 7, 0), ((0, 1), (2, 1), 1, 1), ((0, 1), (2, 1), 3, 2),
                                         ((0, 1), (2, 1), 5, 3), ((0, 1), (3, 1), 1, 0), ((-1, 1), (5, 1), 1, 0), ((-1, 1), (5, 1), 2, 1),
                                         ((-9, 1), (11, 1), 60, 30), ((1, 2), (3, 2), 1, 1)):
            sentence = (("bar", ("sum", "c", "cost"), low, high, width),)
            edition = ("a", 1, (("r", 1),), (("c", ("r", ())),), (sentence,), ("#" * hashes,), ((0, 0, (1, 1), (("r", 0),)),))
            self.assertIsNone(judge([r], edition))
            self.same(judge([r], put(edition, (5, 0), "#" * (hashes + 1))), ("line", 0, None))
        for low, high in (((2, 1), (3, 1)), ((-3, 1), (0, 1)), ((LIMIT + 1, LIMIT), (2, 1)), ((0, 1), (LIMIT - 1, LIMIT))):
            sentence = (("bar", ("sum", "c", "cost"), low, high, 5),)
            edition = ("a", 1, (("r", 1),), (("c", ("r", ())),), (sentence,), ("",), ((0, 0, (1, 1), (("r", 0),)),))
            self.same(judge([r], edition), ("line", 0, 0))

    def test_the_sheet(self):
        # The holes in order, with their line and part.
        holes = [(line, at) for line, sentence in enumerate(SENTENCES) for at, part in enumerate(sentence) if part[0] != "text"]
        self.assertEqual([entry[:2] for entry in self.edition[6]], holes)
        for at, (line, part) in enumerate(holes):
            self.told(put(self.edition, (6, at, 0), line + 1), line, part)
            self.told(put(self.edition, (6, at, 1), part + 1), line, part)
            for thing in ODD_THINGS:
                if thing is not True or self.edition[6][at][2] is not True:
                    self.told(put(self.edition, (6, at, 2), thing), line, part)
                self.told(put(self.edition, (6, at, 1), "a" if thing == part else thing), line, part)
                self.told(put(self.edition, (6, at, 3), thing), line, part)
            # One entry less, and one more.
            self.told(put(self.edition, (6,), self.edition[6][:at] + self.edition[6][at + 1:]), line, part)
            self.told(put(self.edition, (6,), self.edition[6][:at]), line, part)
            if at > 0:
                self.told(put(self.edition, (6,), self.edition[6][:at] + self.edition[6][:1] + self.edition[6][at:]), line, part)

    def test_true_and_one(self):
        for at, entry in enumerate(self.edition[6]):
            line, part, value, lineage = entry
            if value is True:
                self.told(put(self.edition, (6, at, 2), 1), line, part)
                self.told(put(self.edition, (6, at, 2), 1.0), line, part)
                self.told(put(self.edition, (6, at, 2), (1, 1)), line, part)
            else:
                self.told(put(self.edition, (6, at, 2), True), line, part)
                self.told(put(self.edition, (6, at, 2, 1), bool(value[1])), line, part)
                self.told(put(self.edition, (6, at, 2, 0), float(value[0])), line, part)
            for row, (name, place) in enumerate(lineage):
                if place in (0, 1):
                    self.told(put(self.edition, (6, at, 3, row, 1), bool(place)), line, part)
                    self.told(put(self.edition, (6, at, 3, row, 1), float(place)), line, part)
            if part in (0, 1):
                self.told(put(self.edition, (6, at, 1), bool(part)), line, part)
            if line in (0, 1):
                self.same(judge([self.r], put(self.edition, (6, at, 0), bool(line))), ("form",))

    def test_lineages(self):
        for at, (line, part, value, lineage) in enumerate(self.edition[6]):
            for wrong in (lineage[1:], lineage[:-1], lineage + (("r", 9),), lineage + (("s", 0),), lineage + lineage[-1:],
                          (("q", 0),) + lineage, tuple(reversed(lineage)) + lineage[:1], list(lineage), ()):
                self.told(put(self.edition, (6, at, 3), wrong), line, part)

    def test_lines(self):
        for line, text in enumerate(self.edition[5]):
            for wrong in (text + " ", " " + text, text[:-1], text[1:], "", text.upper() if text.upper() != text else "a"):
                self.told(put(self.edition, (5, line), wrong), line, None)

    def test_the_first_place(self):
        wrong = put(put(self.edition, (5, 1), "a"), (6, 4, 2), False)
        self.told(wrong, 1, None)
        self.told(put(wrong, (6, 3, 3), ()), 1, 2)
        self.told(put(wrong, (6, 2, 3), ()), 1, 0)
        self.told(put(wrong, (4, 0), ()), 0, None)
        self.told(put(wrong, (4, 0, 3), ("text", "")), 0, 3)
        # The parts come ahead of the line, and a later sentence behind it.
        self.told(put(put(self.edition, (5, 2), "a"), (4, 2, 3), None), 2, 3)
        self.told(put(put(self.edition, (5, 2), "a"), (4, 3), ()), 2, None)

    def test_more_entries(self):
        for more in ((9, 9, True, ()), (0, 0, None, None), self.edition[6][-1]):
            edition = put(self.edition, (6,), self.edition[6] + (more,))
            self.same(judge([self.r], edition), ("sheet",))
            self.told(put(edition, (5, 4), "a"), 4, None)
        self.same(judge([self.r], ("a", 1, (), (), (), (), ((0, 0, 0, 0),))), ("sheet",))


class TestByChance(Case):
    def some_register(self, chance, name):
        r = Register(name, GOODS)
        for turn in range(chance.randint(0, 8)):
            if len(r) > 0 and chance.random() < 0.2:
                row = chance.choice(r.rows())[0]
                if chance.random() < 0.5:
                    r.strike(row, author="bo")
                else:
                    r.correct(row, reference.some_row(chance, GOODS), author="bo")
            else:
                r.add(reference.some_row(chance, GOODS), author="bo")
        return r

    def some_hole(self, chance, tables, cells):
        cell = chance.choice(cells)
        column = chance.choice(tables[cell])
        functions = editions.FUNCTIONS if column[1] == "number" else ("count",)
        measure = (chance.choice(functions), cell, column[0])
        word = chance.choice(("number", "bar", "claim", "claim", "claim"))
        if word == "number":
            return (word, measure, chance.randint(0, 9))
        if word == "bar":
            low = chance.choice(reference.NUMBERS[:6])
            return (word, measure, low, (low[0] + chance.randint(1, 9) * low[1], low[1]), chance.randint(1, 60))
        q = chance.choice(reference.NUMBERS[:6])
        claim = chance.choice((
            ("least", measure, q), ("most", measure, q), ("more", measure, measure, (-1, 2)),
            ("share", cell, reference.some_expression(chance, tables[cell], "flag"), (1, 5)),
            ("rises", cell, column[0]), ("top", cell, tables[cell][0][0], "a", tables[cell][-1][0])))
        return (word, claim, chance.choice(((), CITED)))

    def some_edition(self, chance):
        """Registers, and an edition that is accepted unless a hole cannot be printed."""
        registers = [self.some_register(chance, name) for name in ("r", "s")]
        shapes = {origin.name(): origin.columns() for origin in registers}
        cells = []
        for name in chance.sample(("a", "b", "c"), 3):
            source, steps = reference.some_pipeline(chance, shapes, check, (BadStep, UnknownName), most=3)
            steps = tuple(step for step in steps if step[0] != "choose")
            try:
                shapes[name] = check(shapes, (source, steps))
            except (BadStep, UnknownName):
                source, steps = "r", ()
                shapes[name] = GOODS
            cells.append((name, (source, steps)))
        versions = tuple((origin.name(), chance.randint(0, origin.version())) for origin in registers)
        tables = editions.tables_over(registers, versions, cells)
        holes = [self.some_hole(chance, shapes, [name for name, pipeline in cells]) for turn in range(12)]
        holes = [hole for hole in holes if editions.part_fits(tables, hole) and editions.text_of(tables, hole) is not None]
        sentences = [(("text", "x "), hole) if chance.random() < 0.5 else (hole,) for hole in holes]
        if len(holes) > 1:
            sentences.append(tuple(holes[:12]))
        return registers, edition_of(registers, tuple(cells), tuple(sentences), versions=versions)

    def test_accepted_and_refused(self):
        chance = random.Random(25)
        refused = {}
        for turn in range(250):
            registers, edition = self.some_edition(chance)
            self.assertIsNone(second_judge(registers, edition))
            self.assertIsNone(judge(registers, edition))
            paths = paths_in(edition)[1:]
            things = [at_path(edition, path) for path in paths]
            for change in range(25):
                # One thing is exchanged by another one of the same edition, or by a near one.
                path = chance.choice(paths)
                held = at_path(edition, path)
                near = {int: [held, True, False], str: ["a", "r", "only", "least"], tuple: [()]}.get(type(held), [1])
                if type(held) is int:
                    near += [held + 1, held - 1]
                if type(held) is tuple and held:
                    near += [held[1:], held[:-1], held + held[-1:], held[::-1]]
                wrong = put(edition, path, chance.choice(near + [chance.choice(things)]))
                found = judge(registers, wrong)
                self.same(found, second_judge(registers, wrong))
                kind = found if found is None else found[0]
                refused[kind] = refused.get(kind, 0) + 1
        self.assertEqual(set(refused), {None, "form", "register", "cell", "line", "sheet"}, refused)


if __name__ == "__main__":
    unittest.main()
