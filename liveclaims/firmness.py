"""Firmness: how many rows must be struck until a claim is not true."""

from liveclaims.claims import cells_of, check_claim, is_share, keeps_bound, rows_with, truth_in
from liveclaims.errors import BadClaim, NotRowwise
from liveclaims.totals import by_size, common_scale, scaled, total


def has_firmness(claim):
    if claim[0] == "least" or claim[0] == "most":
        return claim[1][0] != "only"
    return claim[0] == "share"


def rows_to_strike(table, claim):
    """The (value, place) of the rows that have a value, in the order in which they are best struck."""
    word, (function, cell, column), q = claim
    rows = [(value, lineage[0]) for value, (values, lineage) in zip(table.column(column), table.rows())
            if value is not None]
    if function == "count":
        # One row counts like another, and not all kinds have a size.
        return rows
    if word == "least":
        return sorted(rows, key=lambda row: by_size(row[0]), reverse=True)
    return sorted(rows, key=lambda row: by_size(row[0]))


def over_one_scale(values, q):
    """The values and q, all times one number above zero that makes them integers."""
    scale = common_scale(values + [q])
    return ([(scaled(value, scale), 1) for value in values], (scaled(q, scale), 1))


def struck_for_bound(table, claim):
    """The places of the fewest rows whose striking ends a least or most, or None."""
    word, (function, cell, column), q = claim
    rows = rows_to_strike(table, claim)
    values = [value for value, place in rows]
    if function == "sum" or function == "mean":
        # Long sums of unlike denominators are slow, and there is one for each count.
        values, q = over_one_scale(values, q)
    # Of all ways to strike so many rows, striking the greatest values makes each function the least, and striking
    # the least values makes it the greatest. No other way has to be looked at.
    for count in range(1, len(rows) + 1):
        if keeps_bound(word, total(function, values[count:]), q) is not True:
            return [place for value, place in rows[:count]]
    return None


def struck_for_share(table, claim):
    """The places of the fewest rows whose striking ends a share."""
    word, cell, expression, q = claim
    # Striking any other row never makes the share less.
    places = [lineage[0] for values, lineage in rows_with(table, expression)]
    count = 1
    # It ends at the latest when all these rows are struck.
    while is_share(len(places) - count, len(table) - count, q):
        count += 1
    return places[:count]


def firmness(notebook, claim):
    check_claim(notebook, claim)
    if not has_firmness(claim):
        raise BadClaim()
    cell = cells_of(claim)[0]
    if not notebook.is_rowwise(cell):
        raise NotRowwise(cell)
    table = notebook.value(cell)
    if truth_in({cell: table}, claim) is not True:
        return (0, [])
    struck = struck_for_share(table, claim) if claim[0] == "share" else struck_for_bound(table, claim)
    if struck is None:
        return None
    return (len(struck), sorted(struck))
