"""Pipelines: which are valid, to which columns they lead, and which choices they hold."""

from liveclaims.errors import BadChoice, BadStep, UnknownName
from liveclaims.exact import is_whole
from liveclaims.expressions import kind_or_none
from liveclaims.registers import MOST_COLUMNS, is_name
from liveclaims.tables import names_of
from liveclaims.totals import FUNCTIONS

MOST_STEPS = 10
MOST_LONG_STEPS = 40
MOST_COUNT = 1000
MOST_WHOLE = 1000
MOST_SEED = 10 ** 9
ORDERS = ("up", "down")
MOST_KEYS = 3
MOST_TOTALS = 6
LEAST_ALTERNATIVES = 2
MOST_ALTERNATIVES = 4
MOST_INNER_STEPS = 4


def is_between(value, low, high):
    return is_whole(value) and low <= value <= high


def is_tuple_of(value, low, high):
    return isinstance(value, tuple) and low <= len(value) <= high


def kind_in(columns, name):
    """The kind of the column of that name, or None, also for a thing that is no name."""
    for called, kind in columns:
        if called == name:
            return kind
    return None


def are_columns(columns, names):
    """Whether these things are unlike names of columns."""
    seen = []
    for name in names:
        if name in seen or kind_in(columns, name) is None:
            return False
        seen.append(name)
    return True


def bounded(columns):
    """The columns, or None if they are too many."""
    return columns if len(columns) <= MOST_COLUMNS else None


# Each of these takes the tables' columns, the columns ahead of a step, and the step, whose word and length are
# right; a name that stands as the other table's is in tables. It returns the columns behind the step, or None if the
# step is invalid.

def behind_keep(tables, columns, step):
    return columns if kind_or_none(columns, step[1]) == "flag" else None


def behind_set(tables, columns, step):
    word, name, expression = step
    kind = kind_or_none(columns, expression)
    if not is_name(name) or kind is None:
        return None
    if kind_in(columns, name) is None:
        return bounded(columns + ((name, kind),))
    return tuple([(name, kind) if column[0] == name else column for column in columns])


def behind_select(tables, columns, step):
    names = step[1]
    if not is_tuple_of(names, 1, MOST_COLUMNS) or not are_columns(columns, names):
        return None
    return tuple([(name, kind_in(columns, name)) for name in names])


def behind_rename(tables, columns, step):
    word, old, new = step
    if kind_in(columns, old) is None or not is_name(new):
        return None
    if new != old and kind_in(columns, new) is not None:
        return None
    return tuple([(new, kind) if name == old else (name, kind) for name, kind in columns])


def behind_sort(tables, columns, step):
    word, name, order = step
    return columns if kind_in(columns, name) is not None and order in ORDERS else None


def behind_first(tables, columns, step):
    return columns if is_between(step[1], 0, MOST_COUNT) else None


def behind_sample(tables, columns, step):
    word, part, whole, seed = step
    if not is_between(whole, 1, MOST_WHOLE) or not is_between(part, 0, whole):
        return None
    return columns if is_between(seed, 0, MOST_SEED) else None


def behind_join(tables, columns, step):
    word, other, names = step
    if not is_name(other) or not is_tuple_of(names, 1, MOST_KEYS) or not are_columns(columns, names):
        return None
    others = tables[other]
    # A column that the other table does not have has another kind there, too: None.
    if any([kind_in(columns, name) != kind_in(others, name) for name in names]):
        return None
    added = tuple([column for column in others if column[0] not in names])
    if any([kind_in(columns, column[0]) is not None for column in added]):
        return None
    return bounded(columns + added)


def behind_union(tables, columns, step):
    other = step[1]
    return columns if is_name(other) and tables[other] == columns else None


def is_total(columns, thing):
    if not is_tuple_of(thing, 3, 3):
        return False
    name, function, column = thing
    if not is_name(name) or function not in FUNCTIONS:
        return False
    kind = kind_in(columns, column)
    return kind == "number" or (function == "count" and kind is not None)


def behind_group(tables, columns, step):
    word, names, totals = step
    if not is_tuple_of(names, 0, MOST_KEYS) or not are_columns(columns, names):
        return None
    if not is_tuple_of(totals, 1, MOST_TOTALS) or not all([is_total(columns, thing) for thing in totals]):
        return None
    keys = [(name, kind_in(columns, name)) for name in names]
    found = tuple(keys + [(thing[0], "number") for thing in totals])
    if len(set(names_of(found))) < len(found):
        return None
    return bounded(found)


def behind_distinct(tables, columns, step):
    return columns


LENGTHS = {"keep": 2, "set": 3, "select": 2, "rename": 3, "sort": 3, "first": 2, "sample": 4, "join": 3, "union": 2,
           "group": 3, "distinct": 1}
BEHIND = {"keep": behind_keep, "set": behind_set, "select": behind_select, "rename": behind_rename,
          "sort": behind_sort, "first": behind_first, "sample": behind_sample, "join": behind_join,
          "union": behind_union, "group": behind_group, "distinct": behind_distinct}


def word_of(step):
    """The word of a step, or None if the thing has none."""
    if isinstance(step, tuple) and len(step) > 0 and isinstance(step[0], str):
        return step[0]
    return None


def columns_behind(tables, columns, step):
    """The columns behind a step that is no choose, or None if it is invalid."""
    word = word_of(step)
    if word is None or word not in LENGTHS or len(step) != LENGTHS[word]:
        return None
    follow = BEHIND[word]
    return follow(tables, columns, step)


def other_of(step):
    """The other table's name of a join or union, or None."""
    word = word_of(step)
    if (word == "join" or word == "union") and len(step) == LENGTHS[word] and is_name(step[1]):
        return step[1]
    return None


def check_step(tables, columns, step, index):
    """The columns behind a step that is no choose."""
    other = other_of(step)
    if other is not None and other not in tables:
        raise UnknownName(other)
    found = columns_behind(tables, columns, step)
    if found is None:
        raise BadStep(index)
    return found


def is_choose(step):
    """Whether a choose is one by its form; what stands in the alternatives is not looked at."""
    if not is_tuple_of(step, 3, 3) or not is_name(step[1]):
        return False
    if not is_tuple_of(step[2], LEAST_ALTERNATIVES, MOST_ALTERNATIVES):
        return False
    return all([is_tuple_of(steps, 0, MOST_INNER_STEPS) for steps in step[2]])


def check_choose(tables, columns, step, index):
    """The columns behind a choose of the right form."""
    ends = []
    for steps in step[2]:
        end = columns
        for inner in steps:
            end = check_step(tables, end, inner, index)
        ends.append(end)
    if any([end != ends[0] for end in ends]):
        raise BadStep(index)
    return ends[0]


def is_pipeline(value, most):
    return is_tuple_of(value, 2, 2) and is_name(value[0]) and is_tuple_of(value[1], 0, most)


def check(tables, pipeline, *, long=False):
    if not is_pipeline(pipeline, MOST_LONG_STEPS if long else MOST_STEPS):
        raise BadStep(None)
    source, steps = pipeline
    if source not in tables:
        raise UnknownName(source)
    columns = tables[source]
    numbers = {}
    for index, step in enumerate(steps):
        if word_of(step) == "choose":
            if not is_choose(step) or numbers.get(step[1], len(step[2])) != len(step[2]):
                raise BadStep(index)
            numbers[step[1]] = len(step[2])
            columns = check_choose(tables, columns, step, index)
        else:
            columns = check_step(tables, columns, step, index)
    return columns


def labels_of(pipeline):
    return sorted({(step[1], len(step[2])) for step in pipeline[1] if step[0] == "choose"})


def chosen_index(setting, label, number):
    """The index of a label under a setting."""
    index = setting.get(label, 0)
    if not is_between(index, 0, number - 1):
        raise BadChoice(label)
    return index


def resolved(pipeline, setting):
    source, steps = pipeline
    plain = []
    for step in steps:
        if step[0] == "choose":
            index = chosen_index(setting, step[1], len(step[2]))
            plain.extend(list(step[2][index]))
        else:
            plain.append(step)
    return (source, tuple(plain))


def every_step(pipeline):
    """The steps in order, those of all alternatives in place of a choose."""
    steps = []
    for step in pipeline[1]:
        if step[0] == "choose":
            steps.extend([inner for alternative in step[2] for inner in alternative])
        else:
            steps.append(step)
    return steps


def reads_of(pipeline):
    """The names of the tables that a checked pipeline reads: the source, then others by position."""
    names = [pipeline[0]]
    for step in every_step(pipeline):
        other = other_of(step)
        if other is not None and other not in names:
            names.append(other)
    return names
