"""Promises [22], [23] and [24]: papers, what they print and what they publish."""

import itertools
import random
import unittest

import editions
import reference
from common import LIMIT, ODD_THINGS, Case, dear, goods
from liveclaims.claims import truth
from liveclaims.errors import (BadChoice, BadName, BadRegisters, BadSentence, BadStep, FalseClaim, Missing, NoEdition, NoLine, OutOfScale,
                               TooLarge, UnknownName)
from liveclaims.judging import judge
from liveclaims.notebooks import Notebook
from liveclaims.papers import Paper
from liveclaims.registers import Register
from liveclaims.steps import check
from test_judging import CELLS, SENTENCES, paths_in, put

TEXT = (("text", "a"),)


def report():
    """The document's setup p: the register, the notebook, the paper and its edition."""
    r, nb = dear()
    p = Paper("report", nb)
    p.write((("text", "mean "), ("number", ("mean", "dear", "cost"), 1)))
    p.write((("claim", ("least", ("count", "dear", "cost"), (1, 1)), ()),))
    return r, nb, p, p.publish()


def whole():
    """A register, a notebook and a paper with a sentence of each kind of hole."""
    r = goods("r", 4)
    nb = Notebook([r])
    for name, pipeline in CELLS:
        nb.put(name, pipeline)
    p = Paper("report", nb)
    for sentence in SENTENCES:
        p.write(sentence)
    return r, nb, p


def state(p):
    nb = p.notebook()
    return repr((p.name(), p.sentences(), p.editions(), len(p), nb.cells(), nb.setting(), nb.evaluated(), nb.tries(),
                 [origin.entries() for origin in nb.registers()]))


def choose(label, *alternatives):
    return ("choose", label, tuple(tuple(steps) for steps in alternatives))


class TestExamples(Case):
    def test_published(self):
        r, nb, p, e = report()
        self.same((e[5], e[6]), (("mean 181.0", "count of cost in dear is at least 1"),
                                 ((0, 1, (181, 1), (("prices", 1),)), (1, 0, True, (("prices", 1),)))))

    def test_preview(self):
        r, nb, p, e = report()
        self.same(p.preview(without=(("prices", 1),)), ["mean ?", "?"])

    def test_judged(self):
        r, nb, p, e = report()
        self.same((judge([r], e), judge([r], e[:5] + (("mean 181", e[5][1]),) + e[6:])), (None, ("line", 0, None)))


class TestMade(Case):
    def test_wrong_names(self):
        nb = Notebook([goods()])
        for thing in ODD_THINGS:
            self.assertIs(self.refused(BadName, Paper, thing, thing).given, thing)
            self.assertIs(self.refused(BadName, Paper, thing, nb).given, thing)

    def test_wrong_notebooks(self):
        for thing in ODD_THINGS + (goods(), [goods()], Notebook):
            self.same(self.refused(BadRegisters, Paper, "a", thing).index, None)

    def test_empty(self):
        nb = Notebook([goods()])
        p = Paper(name="a", notebook=nb)
        self.same((p.name(), p.sentences(), p.preview(), p.editions(), len(p)), ("a", [], [], [], 0))
        self.assertIs(p.notebook(), nb)
        # A paper may have a register's or a cell's name.
        nb.put("c", ("r", ()))
        self.same(Paper("r", nb).name(), "r")
        self.same(Paper("c", nb).name(), "c")
        e = p.publish()
        self.same(e, ("a", 1, (("r", 3),), (), (), (), ()))
        self.assertIsNone(judge([nb.registers()[0]], e))


class TestSentences(Case):
    def setUp(self):
        self.r, self.nb, self.p = whole()
        for line in range(5):
            self.p.erase(0)

    def wrong(self, sentence, part):
        before = state(self.p)
        self.same(self.refused(BadSentence, self.p.write, sentence).part, part)
        self.assertEqual(state(self.p), before)
        if len(self.p):
            self.same(self.refused(BadSentence, self.p.rewrite, 0, sentence).part, part)
            self.assertEqual(state(self.p), before)

    def test_valid(self):
        for line, sentence in enumerate(SENTENCES):
            self.same(self.p.write(sentence), line)
        self.same(self.p.sentences(), list(SENTENCES))
        self.same(self.p.write(sentence=TEXT * 12), 5)
        self.assertIsNone(self.p.rewrite(number=0, sentence=TEXT))
        self.assertIsNone(self.p.erase(number=0))

    def test_not_a_tuple_of_so_many(self):
        self.p.write(TEXT)
        for thing in ODD_THINGS:
            if not isinstance(thing, tuple) or thing == ():
                self.wrong(thing, None)
        self.wrong((), None)
        self.wrong(TEXT * 13, None)
        self.wrong((None,) * 13, None)
        self.wrong(list(TEXT), None)
        self.wrong("a", None)

    def test_any_value_as_part(self):
        self.p.write(TEXT)
        for thing in ODD_THINGS + (["text", "a"], ("text",), ("text", "a", "a"), ("words", "a"), ("Text", "a"), ("number",), ("hole", "a")):
            for at in (0, 1, 11):
                self.wrong(TEXT * at + (thing,) + (None,) * (11 - at), at)

    def test_texts(self):
        for words in ("a", "a" * 80, " ", "~", "\\", '"', "Mean of all: ", "{}[]()<>!$&*+,-./:;=@^_`|~'"):
            self.p.write((("text", words),))
        for words in ("", "a" * 81, "a\n", "\t", "\x1f", "\x7f", "\xa0", "\xe9", "\u0663", "\ud800") + tuple("0123456789#?%"):
            self.wrong((("text", words),), 0)
            self.wrong((("text", "a"), ("text", "a" + words + "a" * 80),), 1)
        for thing in ODD_THINGS:
            if thing not in ("A", "no such", "abcdefghijklm"):
                self.wrong((("text", thing),), 0)
        for code in range(256):
            if 32 <= code <= 126 and chr(code) not in "0123456789#?%":
                self.p.rewrite(0, (("text", chr(code)),))
            else:
                self.wrong((("text", chr(code)),), 0)

    def test_numbers(self):
        m = ("sum", "all", "cost")
        for places in (0, 9):
            self.p.write((("number", m, places),))
        for places in ODD_THINGS + (-1, 10, 10 ** 30):
            if places is True or places is False or places not in (0, 1):
                self.wrong((("number", m, places),), 0)
        for thing in ODD_THINGS + (("sum", "all"), ("sum", "all", "item"), ("sum", "r", "cost"), ("sum", "none", "cost"), ("max", "all", "cost")):
            self.wrong((("text", "a"), ("number", thing, 1)), 1)
            self.wrong((("bar", thing, (0, 1), (1, 1), 1),), 0)
        self.wrong((("number", m),), 0)
        self.wrong((("number", m, 1, 1),), 0)

    def test_bars(self):
        m = ("sum", "all", "cost")
        for low, high, width in (((0, 1), (1, 1), 1), ((-1, 2), (-1, 3), 60), ((0, 1), (1, LIMIT * 10), 7)):
            self.p.write((("bar", m, low, high, width),))
        for width in ODD_THINGS + (0, 61, -1):
            if width is True or width != 1:
                self.wrong((("bar", m, (0, 1), (1, 1), width),), 0)
        for low, high in (((1, 1), (1, 1)), ((2, 1), (1, 1)), ((1, 2), (1, 3)), ((0, 1), (2, 2)), ((0, 2), (1, 1)), (0, 1), ((0, 1), 1), (0, (1, 1))):
            self.wrong((("bar", m, low, high, 5),), 0)
        for thing in ODD_THINGS:
            if thing != (1, 2):
                self.wrong((("bar", m, thing, (1, 1), 5),), 0)
                self.wrong((("bar", m, (0, 1), thing, 5),), 0)
        self.wrong((("bar", m, (0, 1), (1, 1)),), 0)
        self.wrong((("bar", m, (0, 1), (1, 1), 1, 1),), 0)

    def test_claims(self):
        claim = ("rises", "all", "cost")
        cited = ("a", 1, 0, 0)
        for groups in ((), ((cited,),), ((cited,) * 4,) * 4, ((("desk", 10 ** 20, 39, 11),),)):
            self.p.write((("claim", claim, groups),))
        for thing in ODD_THINGS + (("rises", "all", "item"), ("rises", "r", "cost"), ("least", ("sum", "all", "cost"), 1)):
            self.wrong((("claim", thing, ()),), 0)
            if thing != ():
                self.wrong((("claim", claim, thing),), 0)
            self.wrong((("claim", claim, (thing,)),), 0)
            self.wrong((("claim", claim, ((thing,),)),), 0)
            self.wrong((("claim", claim, ((cited, cited), (cited, thing))),), 0)
            for at in range(4):
                if not (at == 0 and thing == "a") and (thing is True or thing is False or not isinstance(thing, int) or thing < (at == 1)):
                    self.wrong((("text", "a"), ("claim", claim, ((put(cited, (at,), thing),),))), 1)
        for groups in (((cited,),) * 5, ((cited,) * 5,), ((),), [(cited,)], ([cited],), ((list(cited),),), (cited,), cited,
                       ((("a", 0, 0, 0),),), ((("a", 1, -1, 0),),), ((("a", 1, 0, -1),),), ((("a", 1, 0),),), ((("a", 1, 0, 0, 0),),)):
            self.wrong((("claim", claim, groups),), 0)
        self.wrong((("claim", claim),), 0)
        self.wrong((("claim", claim, (), ()),), 0)

    def test_anything_within(self):
        # The same parts as the second judge finds valid.
        tables = {name: self.nb.value(name) for name in self.nb.names()}
        for sentence in SENTENCES:
            for path in paths_in(sentence)[1:]:
                for thing in ODD_THINGS:
                    changed = put(sentence, path, thing)
                    bad = [at for at, part in enumerate(changed) if not editions.part_fits(tables, part)]
                    if bad:
                        self.wrong(changed, bad[0])
                    else:
                        self.p.erase(self.p.write(changed))

    def test_against_the_cells_now(self):
        sentence = (("number", ("sum", "late", "cost"), 0),)
        self.wrong(sentence, 0)
        self.nb.put("late", ("r", ()))
        self.same(self.p.write(sentence), 0)
        self.nb.put("late", ("r", (("select", ("item",)),)))
        self.wrong(sentence, 0)
        self.same(self.p.sentences(), [sentence])

    def test_forty_sentences(self):
        for line in range(40):
            self.same(self.p.write(TEXT), line)
        self.same(self.refused(TooLarge, self.p.write, TEXT).size, 41)
        # What is no sentence is told first.
        self.same(self.refused(BadSentence, self.p.write, ()).part, None)
        self.same(len(self.p), 40)
        self.p.rewrite(39, (("text", "b"),))
        self.p.erase(0)
        self.same(self.p.write(TEXT), 39)

    def test_rewrite_and_erase(self):
        for word in "abcd":
            self.p.write((("text", word),))
        self.p.rewrite(1, (("text", "x"), ("text", "y")))
        self.same(self.p.preview(), ["a", "xy", "c", "d"])
        self.p.erase(0)
        self.same((self.p.preview(), len(self.p)), (["xy", "c", "d"], 3))
        self.p.erase(2)
        self.same(self.p.sentences(), [(("text", "x"), ("text", "y")), (("text", "c"),)])
        self.same(self.p.write(TEXT), 2)

    def test_no_such_line(self):
        self.p.write(TEXT)
        self.p.write(TEXT)
        before = state(self.p)
        for thing in ODD_THINGS + (2, -1, -2, 1.0, "0"):
            if thing is True or thing is False or thing not in (0, 1):
                self.assertIs(self.refused(NoLine, self.p.rewrite, thing, TEXT).number, thing)
                self.assertIs(self.refused(NoLine, self.p.rewrite, thing, None).number, thing)
                self.assertIs(self.refused(NoLine, self.p.erase, thing).number, thing)
        self.refused(NoLine, self.p.erase, 1.0)
        self.assertEqual(state(self.p), before)
        empty = Paper("a", self.nb)
        self.refused(NoLine, empty.erase, 0)
        self.refused(NoLine, empty.rewrite, 0, None)

    def test_the_list_belongs_to_the_caller(self):
        self.p.write(TEXT)
        self.p.sentences().clear()
        self.p.preview().clear()
        self.p.publish()
        self.p.editions().clear()
        self.same((len(self.p.sentences()), len(self.p.preview()), len(self.p.editions())), (1, 1, 1))


class TestPreview(Case):
    def test_printed(self):
        r, nb, p = whole()
        before = state(p)
        self.same(p.preview(), [
            "sum 6, mean 1.500000000",
            "########|##########",
            "It is said that sum of cost in all is at least 6; only of cost in one is at most 0",
            "count of sold in all is greater than count of item in one by more than 1/2 and more than 1/3 of all have sold"
            "cost rises in alld has the greatest cost in all",
            "no number " + "~" * 80])
        self.assertEqual(state(p), before)

    def paper(self, *rows, cells=(("c", ("r", ())),)):
        self.r = Register("r", (("item", "word"), ("cost", "number")))
        for row in rows:
            self.r.add(row, author="bo")
        self.nb = Notebook([self.r])
        for name, pipeline in cells:
            self.nb.put(name, pipeline)
        return Paper("a", self.nb)

    def test_each_reason(self):
        p = self.paper(("a", (4, 1)), ("b", None))
        bar = ("bar", ("sum", "c", "cost"), (0, 1), (8, 1), 4)
        p.write((("text", "x "), ("number", ("only", "c", "cost"), 1), ("text", " y")))
        p.write((bar, ("text", "|"), put(bar, (3,), (3, 1)), put(bar, (2,), (5, 1)), put(bar, (1, 0), "only")))
        p.write((("claim", ("least", ("sum", "c", "cost"), (4, 1)), ()), ("text", " "), ("claim", ("least", ("sum", "c", "cost"), (5, 1)), ()),
                 ("claim", ("rises", "c", "cost"), ())))
        self.same(p.preview(), ["x ? y", "##|???", "sum of cost in c is at least 4 ??"])
        # No longer valid.
        self.nb.put("c", ("r", (("select", ("item",)),)))
        self.same(p.preview(), ["x ? y", "?|???", "? ??"])
        self.nb.drop("c")
        self.same(p.preview(), ["x ? y", "?|???", "? ??"])
        self.nb.put("c", ("r", ()))
        self.same(p.preview(), ["x ? y", "##|???", "sum of cost in c is at least 4 ??"])

    def test_too_large(self):
        p = self.paper(*[("a", (1, 1))] * 300, cells=(
            ("c", ("r", ())), ("big", ("r", (choose("x", (), [("union", "r")] * 3),))), ("far", ("big", (("first", 2),)))))
        for cell in ("c", "big", "far"):
            p.write((("number", ("count", cell, "cost"), 0), ("text", "|")))
        p.write((("claim", ("more", ("count", "c", "cost"), ("count", "far", "cost"), (0, 1)), ()),))
        words = "count of cost in c is greater than count of cost in far by more than 0"
        self.same(p.preview(), ["300|", "300|", "2|", words])
        self.same(p.preview(setting={"x": 1}), ["300|", "?|", "?|", "?"])
        self.nb.choose("x", 1)
        self.same(p.preview(), ["300|", "?|", "?|", "?"])
        self.same(p.preview(without=tuple(("r", at) for at in range(50))), ["250|", "1000|", "2|", words])
        for at in range(50):
            self.r.strike(at, author="bo")
        self.same(p.preview(), ["250|", "1000|", "2|", words])
        self.same((self.nb.evaluated(), self.nb.tries()), ([], []))

    def test_settings(self):
        p = self.paper(("a", (4, 1)), ("b", (5, 1)), cells=(
            ("b", ("r", (choose("x", (), [("first", 1)], [("first", 0)]),))), ("c", ("b", (choose("y", (), [("first", 1)]),)))))
        p.write((("number", ("count", "c", "cost"), 0), ("text", " "), ("number", ("sum", "b", "cost"), 0)))
        for (x, y), line in zip(itertools.product(range(3), range(2)), ("2 9", "1 9", "1 4", "1 4", "0 0", "0 0")):
            setting = {"x": x, "y": y, "other": 99}
            self.same(p.preview(setting=setting), [line])
            self.same(setting, {"x": x, "y": y, "other": 99})
            self.nb.choose("x", x)
            self.nb.choose("y", y)
            self.same(p.preview(), [line])
        # A label that the setting lacks has the index 0, whatever is in use.
        self.same(p.preview(setting={}), ["2 9"])
        self.same(p.preview(setting={"y": 1}), ["1 9"])
        self.same(self.nb.setting(), {"x": 2, "y": 1})

    def test_bad_choices(self):
        p = self.paper(("a", (4, 1)), cells=(
            ("c", ("r", (choose("m", (), ()), choose("k", (), ())))), ("d", ("r", (choose("b", (), (), ()),)))))
        before = state(p)
        # All labels of the notebook's cells count, also without a sentence.
        for sentences in range(2):
            for index in ODD_THINGS + (2, 5, -1):
                if index is True or index is False or index not in (0, 1):
                    self.same(self.refused(BadChoice, p.preview, setting={"m": index}).label, "m")
                    self.same(self.refused(BadChoice, p.preview, setting={"m": index, "k": index, "z": 1}).label, "k")
            self.same(self.refused(BadChoice, p.preview, setting={"b": 3, "m": 9}).label, "b")
            self.same(self.refused(BadChoice, p.preview, setting={"b": 2, "m": 9}, without=(("r", 0),)).label, "m")
            if sentences == 0:
                self.assertEqual(state(p), before)
                p.write((("number", ("count", "c", "cost"), 0),))

    def test_without(self):
        p = self.paper(("a", (4, 1)), ("b", (5, 1)), ("c", (6, 1)))
        p.write((("number", ("sum", "c", "cost"), 0),))
        before = state(p)
        self.same(p.preview(without=()), ["15"])
        self.same(p.preview(without=(("r", 0),)), ["11"])
        self.same(p.preview(without=(("r", 0), ("r", 2))), ["5"])
        self.same(p.preview(without=(("r", 0), ("r", 2), ("r", 0), ("r", 1))), ["0"])
        # Rows that are not there are ignored.
        self.same(p.preview(without=(("r", 3), ("r", -1), ("s", 0), ("c", 0))), ["15"])
        self.r.strike(1, author="bo")
        self.same(p.preview(without=(("r", 1),)), ["10"])
        self.same(p.preview(setting={}, without=(("r", 2),)), ["4"])
        self.assertNotEqual(state(p), before)

    def test_after_evaluations(self):
        r, nb, p = whole()
        nb.value("one")
        before = state(p)
        p.preview(without=(("r", 0),))
        p.preview(setting={})
        p.preview()
        self.assertEqual(state(p), before)
        nb.value("one")
        self.assertEqual(state(p), before)

    def test_without_against_struck_rows(self):
        chance = random.Random(23)
        for turn in range(120):
            r, nb, p = whole()
            nb.put("all", reference.some_pipeline(chance, {"r": r.columns()}, check, (BadStep, UnknownName), most=1))
            for name in ("x", "y", "z"):
                if chance.random() < 0.5:
                    r.add(reference.some_row(chance, r.columns()), author="bo")
            struck = [at for at in range(len(r) + 1) if chance.random() < 0.4]
            other = r.twin()
            for at in struck:
                if at < len(r):
                    other.strike(at, author="bo")
            book = Notebook([other])
            for name in nb.names():
                book.put(name, nb.pipeline(name))
            second = Paper("second", book)
            for sentence in p.sentences():
                try:
                    second.write(sentence)
                except BadSentence:
                    # No longer valid: it is compared by what is not a hole.
                    p.rewrite(len(second), TEXT)
                    second.write(TEXT)
            for setting in (None, {}, {"x": 1, "y": 1}):
                before = state(p)
                self.same(p.preview(setting=setting, without=tuple(("r", at) for at in struck)), second.preview(setting=setting))
                self.assertEqual(state(p), before)


class TestPublish(Case):
    def test_thing_by_thing(self):
        r, nb, p = whole()
        e = p.publish()
        self.same(e, editions.edition_of([r], CELLS, SENTENCES))
        self.assertEqual(p.editions(), [e])
        self.same(p.edition(1), e)
        self.same(p.edition(number=1), e)

    def test_versions_of_all_registers(self):
        registers = [goods("s", 2), goods("b", 0), goods("r", 3)]
        nb = Notebook(registers)
        nb.put("c", ("r", ()))
        p = Paper("a", nb)
        p.write((("number", ("count", "c", "item"), 0),))
        registers[0].strike(0, author="bo")
        self.same(p.publish()[2], (("b", 0), ("r", 3), ("s", 3)))

    def test_cells_that_are_read(self):
        nb = Notebook([goods("r", 3), goods("s", 2)])
        nb.put("z", ("r", ()))
        nb.put("y", ("r", ()))
        nb.put("b", ("z", (choose("x", [("union", "y")], (), [("sort", "cost", "up"), ("first", 1)]),)))
        nb.put("a", ("s", (choose("x", (), [("union", "b")], ()),)))
        nb.put("c", ("a", ()))
        nb.put("unused", ("b", ()))
        p = Paper("a", nb)
        p.write((("number", ("count", "b", "item"), 0), ("text", " "), ("number", ("count", "a", "item"), 0)))

        def told(index):
            nb.choose("x", index)
            e = p.publish()
            self.assertIsNone(judge(nb.registers(), e))
            return [name for name, pipeline in e[3]], e[5]
        self.same(nb.names(), ["y", "z", "b", "a", "c", "unused"])
        self.same(told(0), (["y", "z", "b", "a"], ("6 2",)))
        self.same(told(1), (["z", "b", "a"], ("3 5",)))
        self.same(told(2), (["z", "b", "a"], ("1 2",)))
        self.same(p.edition(3)[3], (("z", ("r", ())), ("b", ("z", (("sort", "cost", "up"), ("first", 1)))), ("a", ("s", ()))))
        self.same(p.edition(1)[3][2], ("b", ("z", (("union", "y"),))))
        p.rewrite(0, (("claim", ("more", ("count", "c", "item"), ("count", "y", "item"), (-9, 1)), ()),))
        self.same(told(0), (["y", "a", "c"], ("count of item in c is greater than count of item in y by more than -9",)))
        p.rewrite(0, TEXT)
        self.same(told(0), ([], ("a",)))

    def test_one_after_another(self):
        r, nb, p, first = report()
        entry = r.add(("mat", (200, 1)), author="ed")
        second = p.publish()
        self.same((second[1], second[2], second[5][0]), (2, (("prices", 5),), "mean 190.5"))
        nb.put("dear", ("prices", (choose("cut", (), [("sort", "cost", "up"), ("first", 1)]),)))
        nb.choose("cut", 1)
        third = p.publish()
        self.same((third[1], third[3]), (3, (("dear", ("prices", (("sort", "cost", "up"), ("first", 1)))),)))
        self.same(third[5][0], "mean 181.0")
        p.erase(0)
        r.strike(entry, author="ed")
        fourth = p.publish()
        self.same((fourth[1], fourth[2], fourth[4], fourth[5]), (4, (("prices", 6),), tuple(p.sentences()), first[5][1:]))
        self.same(p.editions(), [first, second, third, fourth])
        for at, edition in enumerate(p.editions()):
            self.same(p.edition(at + 1), edition)
            self.assertIsNone(judge([r], edition))

    def test_no_such_edition(self):
        r, nb, p, e = report()
        for thing in ODD_THINGS + (0, 2, -1, 1.0, "1"):
            if thing is True or thing != 1 or isinstance(thing, float):
                self.assertIs(self.refused(NoEdition, p.edition, thing).number, thing)
        self.refused(NoEdition, p.edition, 1.0)
        self.refused(NoEdition, Paper("a", nb).edition, 1)

    def test_bars(self):
        r = Register("r", (("cost", "number"),))
        r.add(((5, 1),), author="bo")
        nb = Notebook([r])
        nb.put("c", ("r", ()))
        p = Paper("a", nb)
        m = ("sum", "c", "cost")
        for low, high, width, text in (
                ((5, 1), (6, 1), 60, ""), ((4, 1), (5, 1), 60, "#" * 60), ((0, 1), (10, 1), 1, "#"), ((0, 1), (10, 1), 3, "##"), ((0, 1), (10, 1), 60, "#" * 30),
                ((0, 1), (10 ** 30, 1), 60, ""), ((0, 1), (11, 1), 1, ""), ((-5, 1), (15, 1), 5, "###"), ((5 * LIMIT - 1, LIMIT), (6, 1), 60, "")):
            p.write((("bar", m, low, high, width),))
            self.same(p.preview(), [text])
            e = p.publish()
            self.same((e[5], e[6]), ((text,), ((0, 0, (5, 1), (("r", 0),)),)))
            self.assertIsNone(judge([r], e))
            p.erase(0)
        for low, high in (((5 * LIMIT + 1, LIMIT), (6, 1)), ((4, 1), (5 * LIMIT - 1, LIMIT)), ((6, 1), (7, 1)), ((0, 1), (1, 1))):
            p.write(TEXT)
            p.write((("text", "a"), ("bar", m, low, high, 60)))
            self.same(p.preview(), ["a", "a?"])
            found = self.refused(OutOfScale, p.publish)
            self.same((found.line, found.part), (1, 1))
            p.erase(0)
            p.erase(0)


class TestRefused(Case):
    """Each way in which a hole cannot be printed."""

    def setUp(self):
        self.r, self.nb, self.p = whole()
        for line in range(5):
            self.p.erase(0)
        self.first = ("claim", ("least", ("sum", "all", "cost"), (1, 1)), ())
        self.later = ("claim", ("least", ("sum", "all", "cost"), (2, 1)), ())

    def told(self, error, hole, tried):
        """Behind a good claim, with another claim behind it."""
        self.p.write((("text", "a"), self.first))
        self.p.write((("text", "b"), ("text", "c"), hole, self.later))
        self.same(self.p.preview()[1], "bc?" + "sum of cost in all is at least 2")
        found = self.refused(error, self.p.publish)
        self.same(self.p.editions(), [])
        self.same(self.nb.tries(), [(claim, ()) for claim in [self.first[1]] + tried])
        self.same(self.refused(NoEdition, self.p.edition, 1).number, 1)
        return found

    def test_missing_number(self):
        found = self.told(Missing, ("number", ("only", "all", "cost"), 2), [])
        self.same((found.line, found.part), (1, 2))

    def test_missing_bar(self):
        found = self.told(Missing, ("bar", ("only", "all", "cost"), (0, 1), (1, 1), 3), [])
        self.same((found.line, found.part), (1, 2))

    def test_out_of_scale(self):
        found = self.told(OutOfScale, ("bar", ("sum", "all", "cost"), (0, 1), (5, 1), 3), [])
        self.same((found.line, found.part), (1, 2))

    def test_false(self):
        claim = ("least", ("sum", "all", "cost"), (7, 1))
        found = self.told(FalseClaim, ("claim", claim, ()), [claim])
        self.same((found.line, found.part), (1, 2))

    def test_unknown(self):
        claim = ("rises", "one", "cost")
        found = self.told(FalseClaim, ("claim", claim, ()), [claim])
        self.same((found.line, found.part), (1, 2))

    def no_longer(self, hole):
        self.nb.put("gone", ("r", ()))
        self.p.write((("text", "a"), self.first))
        self.p.write((("text", "b"), hole, self.later))
        # The paper is good before.
        self.p.publish()
        self.nb.put("gone", ("r", (("select", ("item",)),)))
        tried = self.nb.tries()
        self.same(self.refused(BadSentence, self.p.publish).part, 1)
        self.nb.drop("gone")
        self.same(self.refused(BadSentence, self.p.publish).part, 1)
        self.same((len(self.p.editions()), self.nb.tries()), (1, tried))

    def test_no_longer_valid(self):
        self.no_longer(("number", ("sum", "gone", "cost"), 1))

    def test_no_longer_valid_bar(self):
        self.no_longer(("bar", ("sum", "gone", "cost"), (0, 1), (9, 1), 5))

    def test_no_longer_valid_claim(self):
        self.no_longer(("claim", ("rises", "gone", "cost"), ()))
        # It is not tried again, nor is what follows it.
        other = Notebook([self.r])
        other.put("all", ("r", ()))
        other.put("gone", ("r", ()))
        p = Paper("b", other)
        p.write((self.first, ("claim", ("rises", "gone", "cost"), ()), self.later))
        other.drop("gone")
        self.same(self.refused(BadSentence, p.publish).part, 1)
        self.same(other.tries(), [(self.first[1], ())])

    def test_the_first_hole(self):
        self.nb.put("gone", ("r", ()))
        self.p.write((("number", ("sum", "gone", "cost"), 1), ("number", ("only", "all", "cost"), 1)))
        self.p.write((("number", ("only", "all", "cost"), 1), ("claim", ("rises", "one", "cost"), ())))
        self.nb.drop("gone")
        self.same(self.refused(BadSentence, self.p.publish).part, 0)
        self.p.rewrite(0, (("text", "a"),))
        found = self.refused(Missing, self.p.publish)
        self.same((found.line, found.part), (1, 0))
        self.p.rewrite(1, (("text", "a"), ("claim", ("rises", "one", "cost"), ()), ("number", ("only", "all", "cost"), 1)))
        found = self.refused(FalseClaim, self.p.publish)
        self.same((found.line, found.part), (1, 1))

    def test_too_large(self):
        r = goods("r", 300)
        nb = Notebook([r])
        nb.put("big", ("r", (choose("x", (), [("union", "r")] * 3),)))
        nb.put("far", ("big", (("first", 2),)))
        nb.put("c", ("r", ()))
        p = Paper("a", nb)
        good = ("least", ("count", "c", "item"), (1, 1))
        claim = ("more", ("count", "c", "item"), ("count", "far", "item"), (0, 1))
        p.write((("claim", good, ()), ("claim", claim, ()), ("claim", ("rises", "c", "cost"), ())))
        nb.choose("x", 1)
        self.same(self.refused(TooLarge, p.publish).size, 1200)
        self.same(nb.tries(), [(good, ()), (claim, (("x", 1),))])
        self.same(nb.evaluated(), ["c", "big"])
        self.same(p.editions(), [])
        p.rewrite(0, (("number", ("count", "far", "item"), 0), ("claim", good, ())))
        self.same(self.refused(TooLarge, p.publish).size, 1200)
        self.same(nb.evaluated(), ["c", "big", "big"])
        # Small again.
        for at in range(50):
            r.strike(at, author="bo")
        e = p.publish()
        self.same((e[1], e[5]), (1, ("2count of item in c is at least 1",)))
        self.assertIsNone(judge([r], e))
        self.same(nb.evaluated(), ["c", "big", "big", "big", "far", "c"])


class TestEvaluated(Case):
    def test_hole_by_hole(self):
        nb = Notebook([goods("r", 3)])
        for name in ("d", "c", "b"):
            nb.put(name, ("r", ()))
        nb.put("a", ("d", ()))
        p = Paper("p", nb)
        p.write((("number", ("count", "c", "item"), 0), ("claim", ("more", ("count", "d", "item"), ("count", "a", "item"), (-1, 1)), ())))
        p.write((("bar", ("count", "b", "item"), (0, 1), (9, 1), 3), ("number", ("count", "c", "item"), 0)))
        p.publish()
        # The cells of a hole ascending, each behind those that it reads.
        self.same(nb.evaluated(), ["c", "d", "a", "b"])
        p.publish()
        self.same(nb.evaluated(), ["c", "d", "a", "b"])

    def test_up_to_the_first_that_cannot_be_printed(self):
        nb = Notebook([goods("r", 3)])
        for name in ("c", "b", "a"):
            nb.put(name, ("r", ()))
        p = Paper("p", nb)
        p.write((("number", ("count", "b", "item"), 0), ("number", ("only", "c", "cost"), 0), ("number", ("count", "a", "item"), 0)))
        self.refused(Missing, p.publish)
        self.same(nb.evaluated(), ["b", "c"])
        nb.value("b")
        self.same(nb.evaluated(), ["b", "c"])

    def test_tries(self):
        nb = Notebook([goods("r", 3)])
        nb.put("c", ("r", (choose("x", (), [("first", 2)]),)))
        nb.put("d", ("r", (choose("y", (), ()),)))
        rises = ("rises", "c", "cost")
        more = ("more", ("count", "c", "item"), ("count", "d", "item"), (-9, 1))
        truth(nb, more, setting={"y": 1})
        p = Paper("p", nb)
        p.write((("claim", rises, ()), ("claim", more, ())))
        p.write((("claim", rises, ()), ("number", ("count", "c", "item"), 0)))
        nb.choose("x", 1)
        p.publish()
        first = [(more, (("x", 0), ("y", 1))), (rises, (("x", 1),)), (more, (("x", 1), ("y", 0)))]
        self.same(nb.tries(), first)
        nb.choose("x", 0)
        p.publish()
        self.same(nb.tries(), first + [(rises, (("x", 0),)), (more, (("x", 0), ("y", 0)))])


class TestSeveral(Case):
    def test_papers_over_one_notebook(self):
        r, nb, p = whole()
        q = Paper("report", nb)
        q.write(SENTENCES[0])
        first = p.publish()
        self.same((len(p), len(q), p.editions(), q.editions()), (5, 1, [first], []))
        second = q.publish()
        self.same((second[1], second[5]), (1, first[5][:1]))
        q.erase(0)
        self.same((len(p), p.preview()), (5, list(first[5])))
        nb.put("all", ("r", (("first", 2),)))
        self.same(p.preview()[0], "sum 1, mean 0.500000000")
        self.same(p.editions(), [first])

    def test_notebooks_over_the_same_registers(self):
        r, nb, p = whole()
        twin = nb.twin()
        q = Paper("other", twin)
        q.write(SENTENCES[0])
        twin.put("all", ("r", (("first", 2),)))
        self.same((p.preview()[0], q.preview()[0]), ("sum 6, mean 1.500000000", "sum 1, mean 0.500000000"))
        q.publish()
        self.same((nb.evaluated(), nb.tries(), twin.evaluated()), ([], [], ["all"]))
        r.strike(1, author="bo")
        self.same((p.preview()[0], q.preview()[0]), ("sum 5, mean 1.666666667", "sum 2, mean 1.000000000"))

    def test_a_paper_keeps_its_notebook(self):
        r, nb, p = whole()
        p.erase(0)
        nb.put("new", ("r", (("first", 3),)))
        self.same(p.write((("number", ("count", "new", "item"), 0),)), 4)
        r.strike(0, author="bo")
        r.strike(1, author="bo")
        self.same(p.preview()[4], "2")
        self.assertIs(p.notebook(), nb)


if __name__ == "__main__":
    unittest.main()
