"""Running pipelines over tables."""

from liveclaims.errors import TooLarge
from liveclaims.expressions import evaluate, limited
from liveclaims.steps import columns_behind, reads_of, resolved
from liveclaims.tables import Table, names_of, union_of
from liveclaims.totals import by_size, total

MOST_ROWS = 1000


def draw(seed, lineage, whole):
    h = seed + 1
    for origin, number in lineage:
        h = (h * 48271 + number * 69621 + 11) % 2147483647
    return h % whole


def places_of(columns, names):
    """The positions of the columns of these names."""
    called = names_of(columns)
    return [called.index(name) for name in names]


def picked(values, places):
    return tuple([values[at] for at in places])


# Each of these takes the tables, the table ahead of a step, and the step. It returns the rows behind the step.

def kept_rows(tables, table, step):
    columns = table.columns()
    return [row for row in table.rows() if evaluate(columns, row[0], step[1]) is True]


def set_rows(tables, table, step):
    word, name, expression = step
    columns = table.columns()
    names = names_of(columns)
    # A new column's position is behind the last one.
    at = names.index(name) if name in names else len(names)
    rows = []
    for values, lineage in table.rows():
        found = evaluate(columns, values, expression)
        rows.append((values[:at] + (found,) + values[at + 1:], lineage))
    return rows


def selected_rows(tables, table, step):
    places = places_of(table.columns(), step[1])
    return [(picked(values, places), lineage) for values, lineage in table.rows()]


def all_rows(tables, table, step):
    return table.rows()


def order_key(value):
    """Words and flags are ordered by themselves."""
    return by_size(value) if isinstance(value, tuple) else value


def sorted_rows(tables, table, step):
    word, name, order = step
    at = names_of(table.columns()).index(name)
    present = [row for row in table.rows() if row[0][at] is not None]
    missing = [row for row in table.rows() if row[0][at] is None]
    # Both calls leave rows that tie in their order.
    if order == "down":
        present = sorted(present, key=lambda row: order_key(row[0][at]), reverse=True)
    else:
        present = sorted(present, key=lambda row: order_key(row[0][at]))
    return present + missing


def first_rows(tables, table, step):
    return table.rows()[:step[1]]


def sampled_rows(tables, table, step):
    word, part, whole, seed = step
    return [row for row in table.rows() if draw(seed, row[1], whole) < part]


def grouped(rows, places):
    """A dict from the combinations of values at these positions to their rows, in the order of first occurrence."""
    groups = {}
    for row in rows:
        groups.setdefault(picked(row[0], places), []).append(row)
    return groups


def check_size(size):
    if size > MOST_ROWS:
        raise TooLarge(size)


def joined_rows(tables, table, step):
    word, other, names = step
    others = tables[other]
    places = places_of(table.columns(), names)
    added = [at for at, name in enumerate(names_of(others.columns())) if name not in names]
    partners = grouped(others.rows(), places_of(others.columns(), names))
    pairs = []
    for row in table.rows():
        key = picked(row[0], places)
        if None not in key:
            pairs.append((row, partners.get(key, [])))
    check_size(sum([len(found) for row, found in pairs]))
    rows = []
    for (values, lineage), found in pairs:
        for more, origin in found:
            rows.append((values + picked(more, added), union_of([lineage, origin])))
    return rows


def united_rows(tables, table, step):
    rows = table.rows() + tables[step[1]].rows()
    check_size(len(rows))
    return rows


def limited_total(function, values):
    found = total(function, values)
    return None if found is None else limited(found)


def group_rows(tables, table, step):
    word, names, totals = step
    columns = table.columns()
    functions = [function for name, function, column in totals]
    places = places_of(columns, [column for name, function, column in totals])
    rows = []
    for key, members in grouped(table.rows(), places_of(columns, names)).items():
        found = [limited_total(function, [values[at] for values, lineage in members])
                 for function, at in zip(functions, places)]
        rows.append((key + tuple(found), union_of([lineage for values, lineage in members])))
    return rows


def distinct_rows(tables, table, step):
    groups = grouped(table.rows(), list(range(len(table.columns()))))
    return [(values, union_of([lineage for same, lineage in members])) for values, members in groups.items()]


ROWS_BEHIND = {"keep": kept_rows, "set": set_rows, "select": selected_rows, "rename": all_rows, "sort": sorted_rows,
               "first": first_rows, "sample": sampled_rows, "join": joined_rows, "union": united_rows,
               "group": group_rows, "distinct": distinct_rows}


def run(tables, pipeline, *, setting=None):
    source, steps = resolved(pipeline, {} if setting is None else setting)
    shapes = {name: tables[name].columns() for name in tables}
    table = tables[source]
    for step in steps:
        follow = ROWS_BEHIND[step[0]]
        rows = follow(tables, table, step)
        table = Table(columns_behind(shapes, table.columns(), step), rows)
    return table


def run_all(tables, plans):
    """The tables and what the pipelines give; one that is TooLarge, or reads what is not there, is left out.

    The plans are a dict from names to pipelines that stand behind those that they read.
    """
    found = dict(tables)
    for name, plan in plans.items():
        if all([other in found for other in reads_of(plan)]):
            try:
                found[name] = run(found, plan)
            except TooLarge:
                continue
    return found
