"""From rows to the holes of an edition and back, and what would be printed otherwise now."""

from liveclaims.errors import NoLine, UnknownName
from liveclaims.exact import is_whole
from liveclaims.running import run_all
from liveclaims.sentences import show_hole, show_part
from liveclaims.tables import register_table

# The editions here are accepted by the judge.


def has_row(lineage, origin, number):
    # True and 1.0 are equal to 1, and name no row.
    return is_whole(number) and (origin, number) in lineage


def holes_of(edition, origin, number):
    return [(line, part) for line, part, value, lineage in edition[6] if has_row(lineage, origin, number)]


def rows_of(edition, line, part):
    if is_whole(line) and is_whole(part):
        for own_line, own_part, value, lineage in edition[6]:
            if own_line == line and own_part == part:
                return lineage
    raise NoLine(line)


def tables_now(registers, edition):
    """The Tables of the edition's registers and cells over the rows now; a cell that cannot be run is left out."""
    origins = {origin.name(): origin for origin in registers}
    # Other registers are left aside: a cell may have the name of one.
    tables = {}
    for name, version in edition[2]:
        if name not in origins:
            raise UnknownName(name)
        tables[name] = register_table(origins[name])
    return run_all(tables, {name: pipeline for name, pipeline in edition[3]})


def changes(registers, edition):
    tables = tables_now(registers, edition)
    found = []
    for line, at, value, lineage in edition[6]:
        hole = edition[4][line][at]
        old = show_hole(hole, value)
        new = show_part(tables, hole)
        if old != new:
            found.append((line, at, old, new))
    return found


def are_alike(bar, value, other, other_value):
    """Whether two bars of one scale are printed alike although their values are not equal."""
    if bar[2:] != other[2:] or value == other_value:
        return False
    return show_hole(bar, value) == show_hole(other, other_value)


def alike_bars(edition):
    bars = [((line, at), edition[4][line][at], value) for line, at, value, lineage in edition[6]
            if edition[4][line][at][0] == "bar"]
    return [(place, other_place) for at, (place, bar, value) in enumerate(bars)
            for other_place, other, other_value in bars[at + 1:] if are_alike(bar, value, other, other_value)]
