"""The program as a whole: long histories of papers over notebooks and registers, and the judge over what they published."""

import random
import unittest

import editions
import reference
from common import GOODS, Case, goods
from editions import second_judge
from liveclaims.choices import decisive, robustness
from liveclaims.claims import truth
from liveclaims.errors import (BadClaim, BadLabel, BadSentence, BadStep, Breaks, Cycle, FalseClaim, InUse, Missing, OutOfScale, TooLarge,
                               UnknownName)
from liveclaims.firmness import firmness
from liveclaims.judging import judge
from liveclaims.library import Library
from liveclaims.merging import load
from liveclaims.notebooks import Notebook
from liveclaims.papers import Paper
from liveclaims.steps import check, resolved
from liveclaims.tables import register_table
from liveclaims.texts import read_pipeline
from liveclaims.tracing import alike_bars, changes, holes_of, rows_of
from liveclaims.writing import show_pipeline
from test_judging import at_path, paths_in, put

CELLS = ("a", "b", "c", "d")
UNPRINTABLE = (BadSentence, Missing, OutOfScale, FalseClaim, TooLarge)


class History:
    """Registers, two notebooks over them and three papers, changed by chance."""

    def __init__(self, chance):
        self.chance = chance
        self.registers = [goods("r", 4), goods("s", 2)]
        first = Notebook(self.registers)
        self.notebooks = [first, first.twin()]
        self.papers = [Paper("p", first), Paper("q", first), Paper("t", self.notebooks[1])]

    def row(self):
        return (self.chance.choice(("a", "b", "c", None)), self.chance.choice(((0, 1), (1, 1), (5, 2), (-3, 1), None)),
                self.chance.choice((True, False, None)))

    def enter(self):
        origin = self.chance.choice(self.registers)
        rows = origin.rows()
        word = self.chance.choice(("add", "add", "correct", "strike"))
        if word == "add" or not rows:
            origin.add(self.row(), author="bo")
        elif word == "correct":
            origin.correct(self.chance.choice(rows)[0], self.row(), author="di")
        else:
            origin.strike(self.chance.choice(rows)[0], author="di")

    def put(self):
        nb = self.chance.choice(self.notebooks)
        tables = {origin.name(): GOODS for origin in self.registers}
        tables.update({name: nb.columns(name) for name in nb.names()})
        pipeline = reference.some_pipeline(self.chance, tables, check, (BadStep, UnknownName), most=3)
        try:
            nb.put(self.chance.choice(CELLS), pipeline)
        except (BadLabel, Breaks, Cycle, UnknownName):
            pass

    def drop(self):
        nb = self.chance.choice(self.notebooks)
        try:
            nb.drop(self.chance.choice(CELLS))
        except (UnknownName, InUse):
            pass

    def choose(self):
        nb = self.chance.choice(self.notebooks)
        if nb.setting():
            nb.choose(self.chance.choice(list(nb.setting())), self.chance.randint(0, 1))

    def hole(self, nb):
        cell = self.chance.choice(nb.names())
        column, kind = self.chance.choice(nb.columns(cell))
        function = self.chance.choice(editions.FUNCTIONS) if kind == "number" else "count"
        measure = (function, cell, column)
        q = self.chance.choice(((0, 1), (1, 1), (1, 2), (-4, 1)))
        word = self.chance.choice(("number", "bar", "claim"))
        if word == "number":
            return ("number", measure, self.chance.randint(0, 3))
        if word == "bar":
            return ("bar", measure, (-9, 1), (9, 1), self.chance.randint(1, 60))
        return ("claim", self.chance.choice((
            ("least", measure, q), ("most", measure, (9, 1)), ("more", measure, measure, (-1, 1)), ("rises", cell, column),
            ("share", cell, reference.some_expression(self.chance, nb.columns(cell), "flag"), (0, 1)))), ())

    def write(self):
        paper = self.chance.choice(self.papers)
        nb = paper.notebook()
        if not nb.names():
            return
        sentence = (("text", "x "), self.hole(nb)) if self.chance.random() < 0.5 else (self.hole(nb), self.hole(nb))
        try:
            if len(paper) > 4:
                paper.rewrite(self.chance.randrange(len(paper)), sentence)
            else:
                paper.write(sentence)
        except BadSentence:
            pass

    def erase(self):
        paper = self.chance.choice(self.papers)
        if len(paper):
            paper.erase(self.chance.randrange(len(paper)))

    def publish(self):
        paper = self.chance.choice(self.papers)
        try:
            return paper.publish()
        except UNPRINTABLE:
            # What cannot be printed is taken out, so that the next one can be published.
            lines = paper.preview()
            for line in reversed(range(len(lines))):
                if "?" in lines[line]:
                    paper.erase(line)
        return None

    def step(self):
        word = self.chance.choice(("enter", "enter", "put", "put", "drop", "choose", "write", "write", "write", "erase", "publish", "publish"))
        return getattr(self, word)()


def with_holes(chance):
    """A history, and an edition with a hole that was published in it."""
    history = History(chance)
    edition = None
    while edition is None or not edition[6]:
        edition = history.step() or edition
    return history, edition


class TestPublished(Case):
    def expected(self, paper):
        """The edition that the paper should publish now, or None if a hole cannot be printed."""
        nb = paper.notebook()
        registers = nb.registers()
        setting = nb.setting()
        plans = [(name, resolved(nb.pipeline(name), setting)) for name in nb.names()]
        try:
            tables = editions.tables_over(registers, None, plans)
        except reference.Large:
            return None
        holes = [part for sentence in paper.sentences() for part in sentence if part[0] != "text"]
        if any(not editions.part_fits(tables, part) or editions.text_of(tables, part) is None for part in holes):
            return None
        # The cells that the holes read, found from the holes on.
        wanted = {cell for part in holes for cell in editions.cells_in(part)}
        while True:
            more = {name for cell, (source, steps) in plans if cell in wanted
                    for name in [source] + [step[1] for step in steps if step[0] in ("join", "union")] if name in dict(plans)}
            if more <= wanted:
                break
            wanted |= more
        cells = tuple(plan for plan in plans if plan[0] in wanted)
        return editions.edition_of(registers, cells, tuple(paper.sentences()), paper=paper.name(), number=len(paper.editions()) + 1)

    def test_histories(self):
        chance = random.Random(24)
        published = refused = 0
        for turn in range(40):
            history = History(chance)
            kept = {paper.name(): [] for paper in history.papers}
            for change in range(60):
                history.step()
                for paper in history.papers:
                    # What publish kept is what was there, and earlier editions stay.
                    self.assertEqual(paper.editions()[:len(kept[paper.name()])], kept[paper.name()])
                    kept[paper.name()] = paper.editions()
            for paper in history.papers:
                expected = self.expected(paper)
                lines = paper.preview()
                if expected is None:
                    self.assertRaises(UNPRINTABLE, paper.publish)
                    self.assertTrue(any("?" in line for line in lines))
                    refused += 1
                else:
                    self.same(paper.publish(), expected)
                    self.same(lines, list(expected[5]))
                    published += 1
            # Behind all later entries, puts and erasures, over copies of the registers, and with more of them beside.
            copies = [goods("other", 2)] + [origin.twin() for origin in reversed(history.registers)]
            shelf = Library(history.registers)
            for paper in history.papers:
                for edition in paper.editions():
                    self.assertIsNone(judge(history.registers, edition))
                    self.assertIsNone(judge(copies, edition))
                    self.assertIsNone(second_judge(copies, edition))
                    shelf.add(edition)
            self.assertEqual(len(shelf), sum(len(paper.editions()) for paper in history.papers))
            self.same(shelf.standing(), shelf.claims())
        self.assertGreater(min(published, refused), 15)

    def test_one_thing_exchanged(self):
        chance = random.Random(26)
        tried = 0
        for turn in range(40):
            history, edition = with_holes(chance)
            registers = history.registers
            paths = paths_in(edition)[1:]
            things = [at_path(edition, path) for path in paths]
            for change in range(40):
                path = chance.choice(paths)
                held = at_path(edition, path)
                near = [chance.choice(things), True, 1, 0, None, "a", (), held]
                if isinstance(held, tuple) and held:
                    near += [held[1:], held + held[:1]]
                if isinstance(held, int):
                    near += [held + 1, held - 1]
                wrong = put(edition, path, chance.choice(near))
                self.same(judge(registers, wrong), second_judge(registers, wrong))
                tried += judge(registers, wrong) is not None
        self.assertGreater(tried, 800)

    def test_rows_and_changes(self):
        chance = random.Random(28)
        moved = 0
        for turn in range(50):
            history, edition = with_holes(chance)
            for origin in history.registers:
                for row in range(len(origin.entries())):
                    expected = [entry[:2] for entry in edition[6] if (origin.name(), row) in entry[3]]
                    self.same(holes_of(edition, origin.name(), row), expected)
            for line, part, value, lineage in edition[6]:
                self.same(rows_of(edition, line, part), lineage)
            for change in range(5):
                history.enter()
                tables = editions.tables_over(history.registers, None, edition[3])
                texts = [(line, part, editions.text_of(editions.tables_over(history.registers, edition[2], edition[3]), edition[4][line][part]),
                          editions.text_of(tables, edition[4][line][part])) for line, part, value, lineage in edition[6]]
                self.same(changes(history.registers, edition), [told for told in texts if told[2] != told[3]])
                moved += len(changes(history.registers, edition))
                self.assertIsNone(judge(history.registers, edition))
            bars = [((line, part), edition[4][line][part], value) for line, part, value, lineage in edition[6]
                    if edition[4][line][part][0] == "bar"]
            shown = {place: editions.half_up((reference.fraction(value) - reference.fraction(bar[2]))
                                             / (reference.fraction(bar[3]) - reference.fraction(bar[2])) * bar[4]) for place, bar, value in bars}
            self.same(alike_bars(edition), [
                (one, two) for at, (one, bar, value) in enumerate(bars) for two, other, other_value in bars[at + 1:]
                if bar[2:] == other[2:] and value != other_value and shown[one] == shown[two]])
        self.assertGreater(moved, 50)

    def test_rows_outside_of_every_lineage(self):
        """Striking them changes no hole of a simple cell."""
        chance = random.Random(29)
        struck = 0
        for turn in range(150):
            history = History(chance)
            for change in range(40):
                history.step()
            paper = chance.choice(history.papers)
            try:
                edition = paper.publish()
            except UNPRINTABLE:
                continue
            nb = paper.notebook()
            for line, part, value, lineage in edition[6]:
                if not all(nb.is_simple(cell) for cell in editions.cells_in(edition[4][line][part])):
                    continue
                copies = [origin.twin() for origin in history.registers]
                for origin in copies:
                    for row, values in origin.rows():
                        if (origin.name(), row) not in lineage:
                            origin.strike(row, author="bo")
                            struck += 1
                self.assertNotIn((line, part), [told[:2] for told in changes(copies, edition)])
        self.assertGreater(struck, 100)


class TestConventions(Case):
    def test_the_order_of_dict_keys(self):
        r = goods("r", 4)
        nb = Notebook([r])
        nb.put("c", ("r", (("choose", "y", ((), (("first", 2),))), ("choose", "x", ((), (("first", 1),))))))
        p = Paper("p", nb)
        p.write((("number", ("sum", "c", "cost"), 0),))
        claim = ("least", ("sum", "c", "cost"), (1, 1))
        for setting in ({"x": 0, "y": 1}, {"y": 1, "x": 0}):
            self.same((nb.value("c", setting=setting).rows(), truth(nb, claim, setting=setting), p.preview(setting=setting)),
                      (nb.value("c", setting={"y": 1}).rows(), True, ["1"]))
        self.same([load([r], dict(order)).cells() for order in ([("a", ("r", ())), ("b", ("a", ()))], [("b", ("a", ())), ("a", ("r", ()))])],
                  [{"a": ("r", ()), "b": ("a", ())}] * 2)

    def test_pipelines_by_text(self):
        # What is written of a cell's pipeline is read back, and gives the same cell.
        chance = random.Random(5)
        for turn in range(20):
            history = History(chance)
            for change in range(30):
                history.step()
            for nb in history.notebooks:
                cells = {name: read_pipeline(show_pipeline(pipeline)) for name, pipeline in nb.cells().items()}
                self.same(cells, nb.cells())
                self.same(load(nb.registers(), cells).cells(), nb.cells())

    def test_a_cell_that_is_too_large(self):
        r = goods("r", 300)
        nb = Notebook([r])
        nb.put("c", ("r", (("union", "r"), ("union", "r"))))
        nb.put("d", ("c", (("choose", "x", ((), (("first", 1),))),)))
        p = Paper("p", nb)
        claim = ("least", ("count", "d", "item"), (1, 1))
        p.write((("claim", claim, ()), ("text", " "), ("number", ("count", "d", "item"), 0)))
        edition = p.publish()
        more = [r.add(("a", None, None), author="bo") for at in range(40)]
        self.same(self.refused(TooLarge, p.publish).size, 1020)
        self.same((p.preview(), p.editions()), (["? ?"], [edition]))
        self.same(changes([r], edition), [(0, 0, "count of item in d is at least 1", None), (0, 2, "900", None)])
        self.same(robustness(nb, claim), ([], [], [(("x", 0),), (("x", 1),)]))
        self.same(decisive(nb, claim), [])
        self.same(self.refused(TooLarge, truth, nb, claim).size, 1020)
        self.assertIsNone(judge([r], edition))
        self.same(judge([r], put(edition, (2, 0, 1), 340)), ("cell", "c"))
        for row in more[:7]:
            r.strike(row, author="bo")
        self.same(p.publish()[5], ("count of item in d is at least 1 999",))
        self.same(p.preview(), ["count of item in d is at least 1 999"])
        self.same(changes([r], edition), [(0, 2, "900", "999")])
        self.same(robustness(nb, claim)[0], [(("x", 0),), (("x", 1),)])

    def test_a_call_that_raises_changes_nothing(self):
        chance = random.Random(3)
        for turn in range(30):
            history = History(chance)
            for change in range(40):
                history.step()

            def state():
                return repr([[(nb.cells(), nb.setting(), nb.tries()) for nb in history.notebooks], [origin.entries() for origin in history.registers],
                             [(paper.sentences(), paper.editions()) for paper in history.papers]])
            before = state()
            nb, paper, r = history.notebooks[0], history.papers[0], history.registers[0]
            for error, call, given in (
                    (BadStep, nb.put, ("a", None)), (UnknownName, nb.put, ("a", ("zz", ()))), (UnknownName, nb.drop, ("zz",)),
                    (UnknownName, nb.choose, ("zz", 0)), (BadSentence, paper.write, (None,)), (IndexError, paper.rewrite, (99, None)),
                    (IndexError, paper.erase, (99,)), (IndexError, paper.edition, (99,)), (UnknownName, nb.value, ("zz",)),
                    (BadClaim, truth, (nb, None)), (BadClaim, firmness, (nb, None)), (BadClaim, robustness, (nb, None)), (BadClaim, decisive, (nb, None))):
                self.assertRaises(error, call, *given)
            self.assertRaises(ValueError, r.add, None, author="bo")
            self.assertRaises(IndexError, r.strike, 999, author="bo")
            self.assertEqual(state(), before)

    def test_values_behind_long_histories(self):
        """Promise [5] (c), with publish, truth and previews between."""
        chance = random.Random(4)
        for turn in range(30):
            history = History(chance)
            for change in range(60):
                history.step()
                nb = chance.choice(history.notebooks)
                if nb.names() and chance.random() < 0.3:
                    name = chance.choice(nb.names())
                    plans = [(cell, resolved(nb.pipeline(cell), nb.setting())) for cell in nb.names()]
                    try:
                        expected = editions.tables_over(history.registers, None, plans)[name]
                    except reference.Large:
                        continue
                    self.assertEqual(nb.value(name), expected)
                    listed = nb.evaluated()
                    self.assertEqual(nb.value(name), expected)
                    self.assertEqual(nb.evaluated(), listed)
                    self.assertEqual(register_table(history.registers[0]).rows(), register_table(nb.registers()[0]).rows())


if __name__ == "__main__":
    unittest.main()
