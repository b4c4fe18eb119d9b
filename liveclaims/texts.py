"""Reading pipelines from texts."""

from liveclaims.errors import BadText
from liveclaims.reading import read_expression, read_whole
from liveclaims.registers import MOST_COLUMNS, is_name
from liveclaims.steps import (LEAST_ALTERNATIVES, MOST_ALTERNATIVES, MOST_COUNT, MOST_INNER_STEPS, MOST_KEYS, MOST_SEED,
                              MOST_STEPS, MOST_TOTALS, MOST_WHOLE, ORDERS)
from liveclaims.totals import FUNCTIONS

OR_LINE = "  or"
INNER_BLANKS = "    "
TOTAL_BLANKS = "  "


def are_unlike_names(words, low, high):
    if len(words) < low or len(words) > high or not all([is_name(word) for word in words]):
        return False
    return len(set(words)) == len(words)


def form_or_none(words):
    """The expression that these words are, or None."""
    try:
        return read_expression(" ".join(words))
    except BadText:
        return None


def whole_or_none(word, low, high):
    """The integer that a word is, or None if it is none or not from low to high."""
    number = read_whole(word)
    return number if number is not None and low <= number <= high else None


# Each of these takes the words of a line, and returns the step, or None if it is none.


def read_keep(words):
    expression = form_or_none(words[1:])
    return None if expression is None else ("keep", expression)


def read_set(words):
    expression = form_or_none(words[2:])
    return None if expression is None or not is_name(words[1]) else ("set", words[1], expression)


def read_select(words):
    names = words[1:]
    return ("select", tuple(names)) if are_unlike_names(names, 1, MOST_COLUMNS) else None


def read_rename(words):
    if len(words) != 3 or not is_name(words[1]) or not is_name(words[2]):
        return None
    return tuple(words)


def read_sort(words):
    return tuple(words) if len(words) == 3 and is_name(words[1]) and words[2] in ORDERS else None


def read_first(words):
    count = whole_or_none(words[1], 0, MOST_COUNT) if len(words) == 2 else None
    return None if count is None else ("first", count)


def read_sample(words):
    if len(words) != 4:
        return None
    whole = whole_or_none(words[2], 1, MOST_WHOLE)
    seed = whole_or_none(words[3], 0, MOST_SEED)
    part = None if whole is None else whole_or_none(words[1], 0, whole)
    return None if part is None or seed is None else ("sample", part, whole, seed)


def read_join(words):
    if len(words) < 3 or not is_name(words[1]) or words[2] != "on":
        return None
    names = words[3:]
    return ("join", words[1], tuple(names)) if are_unlike_names(names, 1, MOST_KEYS) else None


def read_union(words):
    return tuple(words) if len(words) == 2 and is_name(words[1]) else None


def read_distinct(words):
    return tuple(words) if len(words) == 1 else None


READERS = {"keep": read_keep, "set": read_set, "select": read_select, "rename": read_rename, "sort": read_sort,
           "first": read_first, "sample": read_sample, "join": read_join, "union": read_union,
           "distinct": read_distinct}


def read_total(line, ahead):
    """The total that a line with these blanks ahead is, or None."""
    words = line.removeprefix(ahead).split(" ")
    if not line.startswith(ahead) or len(words) != 4 or words[0] != "total":
        return None
    word, name, function, column = words
    return (name, function, column) if is_name(name) and function in FUNCTIONS and is_name(column) else None


# Each of these takes the lines and the number of the first one to read, and returns what they are and the number of
# the line behind them. A line that is not read is left to those that follow; one that fits nowhere is then told there.


def read_group(lines, at, ahead):
    names = lines[at].removeprefix(ahead).split(" ")[1:]
    if not are_unlike_names(names, 0, MOST_KEYS):
        raise BadText(at)
    taken = list(names)
    totals = []
    behind = at + 1
    while behind < len(lines) and len(totals) < MOST_TOTALS and len(taken) < MOST_COLUMNS:
        found = read_total(lines[behind], ahead + TOTAL_BLANKS)
        if found is None or found[0] in taken:
            break
        totals.append(found)
        taken.append(found[0])
        behind += 1
    if len(totals) == 0:
        raise BadText(behind)
    return (("group", tuple(names), tuple(totals)), behind)


def read_step(lines, at, ahead):
    """A step that is no choose, with these blanks ahead."""
    words = lines[at].removeprefix(ahead).split(" ")
    if words[0] == "group":
        return read_group(lines, at, ahead)
    if words[0] not in READERS:
        raise BadText(at)
    reader = READERS[words[0]]
    step = reader(words)
    if step is None:
        raise BadText(at)
    return (step, at + 1)


def read_alternative(lines, at):
    steps = []
    behind = at
    while behind < len(lines) and len(steps) < MOST_INNER_STEPS and lines[behind].startswith(INNER_BLANKS):
        step, behind = read_step(lines, behind, INNER_BLANKS)
        steps.append(step)
    return (tuple(steps), behind)


def read_choose(lines, at, numbers):
    """numbers is a dict from the labels ahead to their numbers of alternatives."""
    label = lines[at].removeprefix("choose ")
    if not is_name(label):
        raise BadText(at)
    alternatives = []
    behind = at + 1
    most = numbers.get(label, MOST_ALTERNATIVES)
    while behind < len(lines) and len(alternatives) < most and lines[behind] == OR_LINE:
        steps, behind = read_alternative(lines, behind + 1)
        alternatives.append(steps)
    if len(alternatives) < numbers.get(label, LEAST_ALTERNATIVES):
        raise BadText(behind)
    return (("choose", label, tuple(alternatives)), behind)


def read_source(line):
    source = line.removeprefix("from ")
    if not line.startswith("from ") or not is_name(source):
        raise BadText(0)
    return source


def read_pipeline(text):
    if not isinstance(text, str):
        raise BadText(0)
    lines = text.split("\n")
    source = read_source(lines[0])
    steps = []
    numbers = {}
    behind = 1
    while behind < len(lines):
        if len(steps) == MOST_STEPS:
            raise BadText(behind)
        if lines[behind].startswith("choose "):
            step, behind = read_choose(lines, behind, numbers)
            numbers[step[1]] = len(step[2])
        else:
            step, behind = read_step(lines, behind, "")
        steps.append(step)
    return (source, tuple(steps))
