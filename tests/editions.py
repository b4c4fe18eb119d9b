"""Editions that are written without a Paper, and a second judge. For tests only."""

from fractions import Fraction

import reference
from liveclaims.errors import BadExpression, BadStep, UnknownName
from liveclaims.expressions import kind_of
from liveclaims.registers import is_name
from liveclaims.steps import check
from liveclaims.tables import Table, register_table

FUNCTIONS = ("count", "sum", "mean", "median", "least", "greatest", "only")


class Wrong(Exception):
    """A place that the judge should tell."""


# What holes are worth. Tables is a dict from cells to Tables.

def column_of(tables, cell, name):
    at = [called for called, kind in tables[cell].columns()].index(name)
    return [values[at] for values, lineage in tables[cell].rows()]


def measure_of(tables, measure):
    """A Fraction, or None."""
    function, cell, column = measure
    values = column_of(tables, cell, column)
    if function == "only":
        return reference.fraction(values[0]) if len(values) == 1 and values[0] is not None else None
    return reference.total(function, values)


def truth_of(tables, claim):
    word = claim[0]
    if word in ("least", "most", "more"):
        found = [measure_of(tables, measure) for measure in claim[1:-1]]
        if None in found:
            return None
        q = reference.fraction(claim[-1])
        return found[0] >= q if word == "least" else found[0] <= q if word == "most" else found[0] - found[1] > q
    if word == "share":
        names = [name for name, kind in tables[claim[1]].columns()]
        rows = [dict(zip(names, values)) for values, lineage in tables[claim[1]].rows()]
        with_it = [row for row in rows if reference.worth(row, claim[2]) is True]
        return Fraction(len(with_it), len(rows)) > reference.fraction(claim[3]) if rows else None
    if word == "rises":
        values = column_of(tables, claim[1], claim[2])
        if len(values) < 2 or None in values:
            return None
        numbers = [reference.fraction(value) for value in values]
        return all(a < b for a, b in zip(numbers, numbers[1:]))
    pairs = list(zip(column_of(tables, claim[1], claim[2]), column_of(tables, claim[1], claim[4])))
    own = [value for called, value in pairs if called == claim[3]]
    if len(own) != 1 or own[0] is None:
        return None
    others = [value for called, value in pairs if called != claim[3] and value is not None]
    return all(reference.fraction(own[0]) > reference.fraction(value) for value in others)


# How they are printed.

def half_up(number):
    size = (2 * abs(number) + 1).__floor__() // 2
    return size if number >= 0 else -size


def decimal_of(number, places):
    units = half_up(number * 10 ** places)
    digits = str(abs(units)).rjust(places + 1, "0")
    text = digits[:len(digits) - places] + ("." + digits[len(digits) - places:] if places else "")
    return ("-" if units < 0 else "") + text


def rational_of(q):
    return str(q[0]) + ("" if q[1] == 1 else "/" + str(q[1]))


def form_of(part):
    if part[0] == "column":
        return part[1]
    if part[0] == "value":
        held = part[1]
        return "=" + ("#yes" if held is True else "#no" if held is False else "'" + held if isinstance(held, str) else rational_of(held))
    return "(" + part[0] + "".join(" " + form_of(operand) for operand in part[1:]) + ")"


def words_of(claim):
    def told(measure):
        return measure[0] + " of " + measure[2] + " in " + measure[1]
    word = claim[0]
    if word == "least":
        return told(claim[1]) + " is at least " + rational_of(claim[2])
    if word == "most":
        return told(claim[1]) + " is at most " + rational_of(claim[2])
    if word == "more":
        return told(claim[1]) + " is greater than " + told(claim[2]) + " by more than " + rational_of(claim[3])
    if word == "share":
        return "more than " + rational_of(claim[3]) + " of " + claim[1] + " have " + form_of(claim[2])
    if word == "rises":
        return claim[2] + " rises in " + claim[1]
    return claim[3] + " has the greatest " + claim[4] + " in " + claim[1]


def cells_in(part):
    if part[0] != "claim":
        return [part[1][1]]
    claim = part[1]
    if claim[0] in ("least", "most", "more"):
        return sorted(set(measure[1] for measure in claim[1:-1]))
    return [claim[1]]


def value_of(tables, part):
    """The value as a sheet has it, or None if it is missing or unknown."""
    if part[0] == "claim":
        return truth_of(tables, part[1])
    found = measure_of(tables, part[1])
    return None if found is None else (found.numerator, found.denominator)


def text_of(tables, part):
    """The printed part, or None."""
    if part[0] == "text":
        return part[1]
    if any(cell not in tables for cell in cells_in(part)):
        return None
    value = value_of(tables, part)
    if part[0] == "claim":
        return words_of(part[1]) if value is True else None
    if value is None:
        return None
    if part[0] == "number":
        return decimal_of(reference.fraction(value), part[2])
    found, low, high = [reference.fraction(q) for q in (value, part[2], part[3])]
    return "#" * half_up((found - low) / (high - low) * part[4]) if low <= found <= high else None


def lineage_of(tables, part):
    return reference.united(*[lineage for cell in cells_in(part) for values, lineage in tables[cell].rows()])


# Editions.

def tables_over(registers, versions, cells):
    """The Tables of the cells over registers at versions, or now if versions is None. A cell that is too large is None."""
    found = {origin.name(): register_table(origin, None if versions is None else dict(versions)[origin.name()])
             for origin in registers if versions is None or origin.name() in dict(versions)}
    for name, pipeline in cells:
        columns = check({other: found[other].columns() for other in found}, pipeline, long=True)
        found[name] = Table(columns, tuple(reference.ran(found, pipeline)))
    return {name: found[name] for name, pipeline in cells}


def edition_of(registers, cells, sentences, paper="report", number=1, versions=None):
    """The edition of these things; every hole must be printable."""
    if versions is None:
        versions = tuple(sorted((origin.name(), origin.version()) for origin in registers))
    tables = tables_over(registers, versions, cells)
    lines = tuple("".join(text_of(tables, part) for part in sentence) for sentence in sentences)
    sheet = tuple((line, at, value_of(tables, part), lineage_of(tables, part))
                  for line, sentence in enumerate(sentences) for at, part in enumerate(sentence) if part[0] != "text")
    return (paper, number, versions, tuple(cells), tuple(sentences), lines, sheet)


# The second judge. It tells True from 1 by comparing how things are shown.

def whole(value):
    return type(value) is int


def is_rational(q):
    return type(q) is tuple and len(q) == 2 and whole(q[0]) and whole(q[1]) and q[1] > 0 and Fraction(q[0], q[1]).denominator == q[1]


def shown(value):
    return repr(value)


def formed(edition):
    if type(edition) is not tuple or len(edition) != 7 or any(type(thing) is not tuple for thing in edition[2:]):
        return False
    paper, number, versions, cells, sentences, lines, sheet = edition
    pairs = all(type(pair) is tuple and len(pair) == 2 and is_name(pair[0]) for pair in versions + cells)
    entries = all(type(entry) is tuple and len(entry) == 4 and whole(entry[0]) for entry in sheet)
    return (is_name(paper) and whole(number) and number >= 1 and pairs and entries
            and all(type(sentence) is tuple for sentence in sentences) and all(type(line) is str for line in lines)
            and len(lines) == len(sentences))


def measure_fits(tables, measure):
    if type(measure) is not tuple or len(measure) != 3 or any(type(thing) is not str for thing in measure):
        return False
    function, cell, column = measure
    if function not in FUNCTIONS or cell not in tables:
        return False
    kind = dict(tables[cell].columns()).get(column)
    return kind == "number" or (kind is not None and function == "count")


def claim_fits(tables, claim):
    if type(claim) is not tuple or not claim or type(claim[0]) is not str:
        return False
    word, rest = claim[0], claim[1:]
    if word in ("least", "most", "more"):
        return len(rest) == (3 if word == "more" else 2) and all(measure_fits(tables, m) for m in rest[:-1]) and is_rational(rest[-1])
    if len(rest) != {"share": 3, "rises": 2, "top": 4}.get(word) or type(rest[0]) is not str or rest[0] not in tables:
        return False
    columns = tables[rest[0]].columns()
    kinds = dict(columns)
    if word == "share":
        try:
            return kind_of(columns, rest[1]) == "flag" and is_rational(rest[2]) and 0 <= rest[2][0] < rest[2][1]
        except BadExpression:
            return False
    if any(type(thing) is not str for thing in rest):
        return False
    if word == "rises":
        return kinds.get(rest[1]) == "number"
    return kinds.get(rest[1]) == "word" and is_name(rest[2]) and kinds.get(rest[3]) == "number"


def groups_fit(groups):
    if type(groups) is not tuple or len(groups) > 4:
        return False
    for group in groups:
        if type(group) is not tuple or not 1 <= len(group) <= 4:
            return False
        for cited in group:
            if type(cited) is not tuple or len(cited) != 4 or not is_name(cited[0]) or not all(whole(n) for n in cited[1:]):
                return False
            if cited[1] < 1 or cited[2] < 0 or cited[3] < 0:
                return False
    return True


def part_fits(tables, part):
    if type(part) is not tuple or not part or type(part[0]) is not str:
        return False
    word, rest = part[0], part[1:]
    if len(rest) != {"text": 1, "number": 2, "bar": 4, "claim": 2}.get(word):
        return False
    if word == "text":
        return type(rest[0]) is str and 1 <= len(rest[0]) <= 80 and not [
            sign for sign in rest[0] if sign in "0123456789#?%" or sign not in map(chr, range(32, 127))]
    if word == "claim":
        return claim_fits(tables, rest[0]) and groups_fit(rest[1])
    if not measure_fits(tables, rest[0]):
        return False
    if word == "number":
        return whole(rest[1]) and 0 <= rest[1] <= 9
    return (is_rational(rest[1]) and is_rational(rest[2]) and reference.fraction(rest[1]) < reference.fraction(rest[2])
            and whole(rest[3]) and 1 <= rest[3] <= 60)


def judged_cells(registers, versions, cells):
    tables = {origin.name(): register_table(origin, dict(versions)[origin.name()])
              for origin in registers if origin.name() in dict(versions)}
    for name, pipeline in cells:
        if name in tables:
            raise Wrong(("cell", name))
        try:
            columns = check({other: tables[other].columns() for other in tables}, pipeline, long=True)
            if "choose" in [step[0] for step in pipeline[1]]:
                raise Wrong(("cell", name))
            tables[name] = Table(columns, tuple(reference.ran(tables, pipeline)))
        except (BadStep, UnknownName, reference.Large):
            raise Wrong(("cell", name))
    return {name: tables[name] for name, pipeline in cells}


def judged(registers, edition):
    if not formed(edition):
        raise Wrong(("form",))
    paper, number, versions, cells, sentences, lines, sheet = edition
    known = {origin.name(): origin.version() for origin in registers}
    for at, (name, version) in enumerate(versions):
        if name not in known or (at and versions[at - 1][0] >= name) or not whole(version) or not 0 <= version <= known[name]:
            raise Wrong(("register", name))
    tables = judged_cells(registers, versions, cells)
    entries = list(sheet)
    for line, sentence in enumerate(sentences):
        if not 1 <= len(sentence) <= 12:
            raise Wrong(("line", line, None))
        for at, part in enumerate(sentence):
            if not part_fits(tables, part) or text_of(tables, part) is None:
                raise Wrong(("line", line, at))
            if part[0] != "text":
                wanted = (line, at, value_of(tables, part), lineage_of(tables, part))
                if not entries or shown(entries.pop(0)) != shown(wanted):
                    raise Wrong(("line", line, at))
        if "".join(text_of(tables, part) for part in sentence) != lines[line]:
            raise Wrong(("line", line, None))
    if entries:
        raise Wrong(("sheet",))


def second_judge(registers, edition):
    try:
        judged(registers, edition)
    except Wrong as wrong:
        return wrong.args[0]
    return None
