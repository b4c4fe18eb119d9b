"""The judge: whether an edition follows from the registers."""

from liveclaims.errors import BadStep, TooLarge, UnknownName
from liveclaims.exact import is_whole
from liveclaims.registers import is_name
from liveclaims.running import run
from liveclaims.sameness import is_same
from liveclaims.sentences import MOST_PARTS, hole_lineage, hole_value, is_hole, is_part, show_part
from liveclaims.steps import check, is_between, is_tuple_of, labels_of
from liveclaims.tables import register_table


def are_named_pairs(things):
    return all([is_tuple_of(thing, 2, 2) and is_name(thing[0]) for thing in things])


def is_sheet(things):
    return all([is_tuple_of(thing, 4, 4) and is_whole(thing[0]) for thing in things])


def has_form(edition):
    if not is_tuple_of(edition, 7, 7) or not all([isinstance(thing, tuple) for thing in edition[2:]]):
        return False
    paper, number, versions, cells, sentences, lines, sheet = edition
    if not is_name(paper) or not is_whole(number) or number < 1:
        return False
    if not are_named_pairs(versions) or not are_named_pairs(cells) or not is_sheet(sheet):
        return False
    if not all([isinstance(sentence, tuple) for sentence in sentences]):
        return False
    return all([isinstance(line, str) for line in lines]) and len(lines) == len(sentences)


def wrong_version(registers, versions):
    """The name of the first version that does not fit, or None."""
    latest = {origin.name(): origin.version() for origin in registers}
    # The empty text stands ahead of every name.
    before = ""
    for name, version in versions:
        if name not in latest or name <= before or not is_between(version, 0, latest[name]):
            return name
        before = name
    return None


def tables_at(registers, versions):
    """The registers' Tables at these versions."""
    origins = {origin.name(): origin for origin in registers}
    return {name: register_table(origins[name], version) for name, version in versions}


def table_of_cell(tables, name, pipeline):
    """The Table of a cell over the tables of the registers and of the cells before it, or None if it is wrong."""
    if name in tables:
        return None
    try:
        check({other: tables[other].columns() for other in tables}, pipeline, long=True)
    except (BadStep, UnknownName):
        return None
    if len(labels_of(pipeline)) > 0:
        return None
    try:
        return run(tables, pipeline)
    except TooLarge:
        return None


def wrong_line(tables, edition):
    """The first place that is wrong in the sentences, the lines and the sheet, or None; tables are the cells'."""
    paper, number, versions, cells, sentences, lines, sheet = edition
    shapes = {name: tables[name].columns() for name in tables}
    told = 0
    for line, sentence in enumerate(sentences):
        if not is_tuple_of(sentence, 1, MOST_PARTS):
            return ("line", line, None)
        texts = []
        for at, part in enumerate(sentence):
            text = show_part(tables, part) if is_part(shapes, part) else None
            if text is None:
                return ("line", line, at)
            if is_hole(part):
                entry = (line, at, hole_value(tables, part), hole_lineage(tables, part))
                if told >= len(sheet) or not is_same(sheet[told], entry):
                    return ("line", line, at)
                told += 1
            texts.append(text)
        if "".join(texts) != lines[line]:
            return ("line", line, None)
    return ("sheet",) if told < len(sheet) else None


def judge(registers, edition):
    if not has_form(edition):
        return ("form",)
    wrong = wrong_version(registers, edition[2])
    if wrong is not None:
        return ("register", wrong)
    tables = tables_at(registers, edition[2])
    for name, pipeline in edition[3]:
        found = table_of_cell(tables, name, pipeline)
        if found is None:
            return ("cell", name)
        tables[name] = found
    return wrong_line({name: tables[name] for name, pipeline in edition[3]}, edition)
