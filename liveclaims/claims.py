"""Measures and claims: numbers and statements that are computed from cells."""

from liveclaims.errors import BadClaim
from liveclaims.exact import compare, is_rational, subtract
from liveclaims.expressions import evaluate, kind_or_none
from liveclaims.registers import is_name
from liveclaims.steps import chosen_index, is_tuple_of, kind_in, word_of
from liveclaims.totals import FUNCTIONS, total

# Each of these says whether things fit the cells; shapes is a dict from the cells' names to their columns.


def is_cell(shapes, name):
    # A thing that is no text may not be one that can be looked up.
    return isinstance(name, str) and name in shapes


def is_measure(shapes, thing):
    if not is_tuple_of(thing, 3, 3):
        return False
    function, cell, column = thing
    if function == "count":
        return is_cell(shapes, cell) and kind_in(shapes[cell], column) is not None
    return (function in FUNCTIONS or function == "only") and is_number_column(shapes, cell, column)


def is_number_column(shapes, cell, column):
    return is_cell(shapes, cell) and kind_in(shapes[cell], column) == "number"


def fits_bound(shapes, claim):
    return is_measure(shapes, claim[1]) and is_rational(claim[2])


def fits_more(shapes, claim):
    return is_measure(shapes, claim[1]) and is_measure(shapes, claim[2]) and is_rational(claim[3])


def fits_share(shapes, claim):
    word, cell, expression, q = claim
    if not is_cell(shapes, cell) or kind_or_none(shapes[cell], expression) != "flag":
        return False
    return is_rational(q) and 0 <= q[0] < q[1]


def fits_rises(shapes, claim):
    return is_number_column(shapes, claim[1], claim[2])


def fits_top(shapes, claim):
    form, cell, label, word, column = claim
    if not is_number_column(shapes, cell, column) or kind_in(shapes[cell], label) != "word":
        return False
    return is_name(word)


LENGTHS = {"least": 3, "most": 3, "more": 4, "share": 4, "rises": 3, "top": 5}
FITS = {"least": fits_bound, "most": fits_bound, "more": fits_more, "share": fits_share, "rises": fits_rises,
        "top": fits_top}


def is_claim(shapes, thing):
    word = word_of(thing)
    if word is None or word not in LENGTHS or len(thing) != LENGTHS[word]:
        return False
    fits = FITS[word]
    return fits(shapes, thing)


def shapes_of(notebook):
    return {name: notebook.columns(name) for name in notebook.names()}


def check_measure(notebook, measure):
    if not is_measure(shapes_of(notebook), measure):
        raise BadClaim()


def check_claim(notebook, claim):
    if not is_claim(shapes_of(notebook), claim):
        raise BadClaim()


def cells_of(claim):
    word = claim[0]
    if word == "more":
        return sorted({claim[1][1], claim[2][1]})
    return [claim[1][1]] if word == "least" or word == "most" else [claim[1]]


# From here on tables is a dict from cells to their Tables.


def measure_in(tables, measure):
    """A rational, or None if it is missing."""
    function, cell, column = measure
    values = tables[cell].column(column)
    if function == "only":
        return values[0] if len(values) == 1 else None
    return total(function, values)


def keeps_bound(word, number, q):
    """The truth of a least or most, of a number that may be missing."""
    if number is None:
        return None
    sign = compare(number, q)
    return sign >= 0 if word == "least" else sign <= 0


def truth_of_bound(tables, claim):
    word, measure, q = claim
    return keeps_bound(word, measure_in(tables, measure), q)


def truth_of_more(tables, claim):
    word, one, other, q = claim
    greater = measure_in(tables, one)
    smaller = measure_in(tables, other)
    if greater is None or smaller is None:
        return None
    return compare(subtract(greater, smaller), q) > 0


def is_share(count, whole, q):
    """Whether count is more than q of the whole; None if the whole is nothing."""
    if whole == 0:
        return None
    return count * q[1] > q[0] * whole


def rows_with(table, expression):
    """The rows for which the expression is True."""
    columns = table.columns()
    return [row for row in table.rows() if evaluate(columns, row[0], expression) is True]


def truth_of_share(tables, claim):
    word, cell, expression, q = claim
    table = tables[cell]
    return is_share(len(rows_with(table, expression)), len(table), q)


def truth_of_rises(tables, claim):
    word, cell, column = claim
    values = tables[cell].column(column)
    if len(values) < 2 or None in values:
        return None
    return all([compare(before, after) < 0 for before, after in zip(values, values[1:])])


def truth_of_top(tables, claim):
    form, cell, label, word, column = claim
    rows = list(zip(tables[cell].column(label), tables[cell].column(column)))
    own = [value for called, value in rows if called == word]
    if len(own) != 1 or own[0] is None:
        return None
    others = [value for called, value in rows if called != word and value is not None]
    return all([compare(own[0], value) > 0 for value in others])


TRUTHS = {"least": truth_of_bound, "most": truth_of_bound, "more": truth_of_more, "share": truth_of_share,
          "rises": truth_of_rises, "top": truth_of_top}


def truth_in(tables, claim):
    """True, False, or None if it is unknown."""
    weigh = TRUTHS[claim[0]]
    return weigh(tables, claim)


def labels_for(notebook, claim):
    """A list of tuples (label, number of alternatives) of the claim's cells, ascending."""
    return sorted({pair for cell in cells_of(claim) for pair in notebook.labels(cell)})


def written_setting(labels, setting):
    """The setting of these labels, as a tuple of (label, index)."""
    return tuple([(label, chosen_index(setting, label, number)) for label, number in labels])


def measured(notebook, measure, *, setting=None):
    check_measure(notebook, measure)
    cell = measure[1]
    return measure_in({cell: notebook.value(cell, setting=setting)}, measure)


def list_try(notebook, claim, setting=None):
    """Lists in the notebook that the truth of a valid claim is asked."""
    used = notebook.setting() if setting is None else setting
    notebook.ask(claim, written_setting(labels_for(notebook, claim), used))


def truth(notebook, claim, *, setting=None):
    check_claim(notebook, claim)
    list_try(notebook, claim, setting)
    tables = {cell: notebook.value(cell, setting=setting) for cell in cells_of(claim)}
    return truth_in(tables, claim)
