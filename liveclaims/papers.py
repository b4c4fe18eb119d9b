"""Papers: sentences over a notebook, and the editions that were published of them."""

from liveclaims.cells import label_numbers, plans_for
from liveclaims.claims import list_try, shapes_of
from liveclaims.errors import BadRegisters, BadSentence, FalseClaim, Missing, NoEdition, NoLine, OutOfScale, TooLarge
from liveclaims.notebooks import Notebook
from liveclaims.registers import check_name
from liveclaims.running import run_all
from liveclaims.sentences import (check_sentence, hole_cells, hole_lineage, hole_value, holes_in, is_hole, is_part,
                                  show_hole, show_part)
from liveclaims.steps import chosen_index, is_between
from liveclaims.tables import Table, register_table

MOST_SENTENCES = 40


def cells_in(holes):
    """The names of the cells in these holes, without duplicates."""
    return sorted({cell for hole in holes for cell in hole_cells(hole)})


def without_rows(table, places):
    """A register's Table as if the rows of these (register name, row number) were struck."""
    return Table(table.columns(), [row for row in table.rows() if row[1][0] not in places])


def tables_of_hole(notebook, hole):
    """The Tables of a hole's cells by the notebook's value; the try of a claim is listed."""
    if hole[0] == "claim":
        list_try(notebook, hole[1])
    return {cell: notebook.value(cell) for cell in hole_cells(hole)}


def check_printable(line, at, hole, value):
    if show_hole(hole, value) is not None:
        return
    if hole[0] == "claim":
        raise FalseClaim(line, at)
    if value is None:
        raise Missing(line, at)
    raise OutOfScale(line, at)


def sheet_of(notebook, sentences):
    shapes = shapes_of(notebook)
    sheet = []
    for line, at, hole in holes_in(sentences):
        if not is_part(shapes, hole):
            raise BadSentence(at)
        tables = tables_of_hole(notebook, hole)
        value = hole_value(tables, hole)
        check_printable(line, at, hole, value)
        sheet.append((line, at, value, hole_lineage(tables, hole)))
    return tuple(sheet)


def lines_of(sentences, sheet):
    values = {(line, at): value for line, at, value, lineage in sheet}
    return tuple(["".join([show_hole(part, values[(line, at)]) if is_hole(part) else part[1]
                           for at, part in enumerate(sentence)])
                  for line, sentence in enumerate(sentences)])


class Paper:
    """Sentences over a notebook. The Notebook is kept itself, so its later changes are seen."""

    def __init__(self, name, notebook):
        check_name(name)
        if not isinstance(notebook, Notebook):
            raise BadRegisters(None)
        self.called = name
        self.book = notebook
        self.written = []
        # The editions that were published.
        self.past = []

    def check_line(self, number):
        if not is_between(number, 0, len(self.written) - 1):
            raise NoLine(number)

    def write(self, sentence):
        check_sentence(shapes_of(self.book), sentence)
        if len(self.written) >= MOST_SENTENCES:
            raise TooLarge(MOST_SENTENCES + 1)
        self.written.append(sentence)
        return len(self.written) - 1

    def rewrite(self, number, sentence):
        self.check_line(number)
        check_sentence(shapes_of(self.book), sentence)
        self.written[number] = sentence

    def erase(self, number):
        self.check_line(number)
        del self.written[number]

    def name(self):
        return self.called

    def notebook(self):
        return self.book

    def sentences(self):
        return list(self.written)

    def preview(self, *, setting=None, without=()):
        cells = self.book.cells()
        used = self.book.setting() if setting is None else setting
        for label, number in label_numbers(cells).items():
            chosen_index(used, label, number)
        shapes = shapes_of(self.book)
        names = cells_in([hole for line, at, hole in holes_in(self.written)])
        tables = {origin.name(): without_rows(register_table(origin), without) for origin in self.book.registers()}
        found = run_all(tables, plans_for(cells, names, used))
        lines = []
        for sentence in self.written:
            texts = [show_part(found, part) if is_part(shapes, part) else None for part in sentence]
            lines.append("".join(["?" if text is None else text for text in texts]))
        return lines

    def publish(self):
        sentences = tuple(self.written)
        sheet = sheet_of(self.book, sentences)
        versions = sorted([(origin.name(), origin.version()) for origin in self.book.registers()])
        names = cells_in([hole for line, at, hole in holes_in(sentences)])
        plans = plans_for(self.book.cells(), names, self.book.setting())
        edition = (self.called, len(self.past) + 1, tuple(versions), tuple(plans.items()), sentences,
                   lines_of(sentences, sheet), sheet)
        self.past.append(edition)
        return edition

    def editions(self):
        return list(self.past)

    def edition(self, number):
        if not is_between(number, 1, len(self.past)):
            raise NoEdition(number)
        return self.past[number - 1]

    def __len__(self):
        return len(self.written)
