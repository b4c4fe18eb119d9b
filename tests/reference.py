"""Pipelines run a second way, by fractions and plain loops, and pipelines made by chance. For tests only."""

from fractions import Fraction

LIMIT = 10 ** 40


def fraction(value):
    return Fraction(value[0], value[1])


def written(number):
    if number is None or abs(number.numerator) > LIMIT or number.denominator > LIMIT:
        return None
    return (number.numerator, number.denominator)


def worth(row, part):
    word, rest = part[0], part[1:]
    if word == "column":
        return row[rest[0]]
    if word == "value":
        return rest[0]
    found = [worth(row, operand) for operand in rest]
    if word == "missing":
        return found[0] is None
    if word in ("both", "either"):
        ends = word == "either"
        if ends in found:
            return ends
        return None if None in found else not ends
    if word == "if":
        return None if found[0] is None else found[1] if found[0] else found[2]
    if None in found:
        return None
    if word == "not":
        return not found[0]
    if word == "same":
        return found[0] == found[1]
    a, b = [fraction(value) for value in found]
    if word == "less":
        return a < b
    if word == "over":
        return written(a / b) if b else None
    return written({"plus": a + b, "minus": a - b, "times": a * b}[word])


def total(function, values):
    """A Fraction, or None."""
    present = [value for value in values if value is not None]
    if function == "count":
        return Fraction(len(present))
    numbers = sorted([fraction(value) for value in present])
    if function == "sum":
        return sum(numbers, Fraction(0))
    if not numbers:
        return None
    middle = len(numbers) // 2
    return {"mean": sum(numbers) / len(numbers), "least": numbers[0], "greatest": numbers[-1],
            "median": numbers[middle] if len(numbers) % 2 else (numbers[middle - 1] + numbers[middle]) / 2}[function]


class Large(Exception):
    pass


def size_checked(rows):
    if len(rows) > 1000:
        raise Large(len(rows))
    return rows


def draw(seed, lineage, whole):
    h = seed + 1
    for origin, number in lineage:
        h = (h * 48271 + number * 69621 + 11) % 2147483647
    return h % whole


def united(*lineages):
    return tuple(sorted(set().union(*lineages)))


def merged(rows, key):
    """Rows of equal key, in the order of first occurrence."""
    groups = []
    for row in rows:
        for held, members in groups:
            if held == key(row):
                members.append(row)
                break
        else:
            groups.append((key(row), [row]))
    return groups


def stepped(tables, columns, rows, step):
    """Rows are pairs of a dict and a lineage. Returns names of columns and rows."""
    word = step[0]
    if word == "keep":
        return columns, [row for row in rows if worth(row[0], step[1]) is True]
    if word == "set":
        fresh = [({**row, step[1]: worth(row, step[2])}, lineage) for row, lineage in rows]
        return columns if step[1] in columns else columns + [step[1]], fresh
    if word == "select":
        return list(step[1]), rows
    if word == "rename":
        fresh = [({step[2] if name == step[1] else name: row[name] for name in columns}, lineage) for row, lineage in rows]
        return [step[2] if name == step[1] else name for name in columns], fresh
    if word == "sort":
        def key(row):
            value = row[0][step[1]]
            return fraction(value) if isinstance(value, tuple) else value
        present = [row for row in rows if row[0][step[1]] is not None]
        present.sort(key=key, reverse=step[2] == "down")
        return columns, present + [row for row in rows if row[0][step[1]] is None]
    if word == "first":
        return columns, rows[:step[1]]
    if word == "sample":
        return columns, [row for row in rows if draw(step[3], row[1], step[2]) < step[1]]
    if word == "union":
        return columns, size_checked(rows + started(tables[step[1]])[1])
    if word == "distinct":
        found = merged(rows, lambda row: [row[0][name] for name in columns])
        return columns, [(members[0][0], united(*[lineage for row, lineage in members])) for key, members in found]
    if word == "join":
        return joined(tables, columns, rows, step)
    return grouped(columns, rows, step)


def joined(tables, columns, rows, step):
    others, partners = started(tables[step[1]])
    found = [({**row, **{name: more[name] for name in others}}, united(lineage, origin))
             for row, lineage in rows for more, origin in partners
             if all(row[name] is not None and row[name] == more[name] for name in step[2])]
    return columns + [name for name in others if name not in step[2]], size_checked(found)


def grouped(columns, rows, step):
    word, names, totals = step
    fresh = []
    for key, members in merged(rows, lambda row: [row[0][name] for name in names]):
        found = dict(zip(names, key))
        for name, function, column in totals:
            found[name] = written(total(function, [row[column] for row, lineage in members]))
        fresh.append((found, united(*[lineage for row, lineage in members])))
    return list(names) + [name for name, function, column in totals], fresh


def started(table):
    columns = [name for name, kind in table.columns()]
    return columns, [(dict(zip(columns, values)), lineage) for values, lineage in table.rows()]


def plain_steps(pipeline, setting):
    found = []
    for step in pipeline[1]:
        found.extend(step[2][setting.get(step[1], 0)] if step[0] == "choose" else [step])
    return found


def ran(tables, pipeline, setting=None):
    """The list of rows that run should give. Raises Large."""
    columns, rows = started(tables[pipeline[0]])
    for step in plain_steps(pipeline, setting or {}):
        columns, rows = stepped(tables, columns, rows, step)
    return [(tuple([row[name] for name in columns]), lineage) for row, lineage in rows]


# By chance.

WORDS = ("a", "b", "c1")
NUMBERS = ((0, 1), (1, 1), (2, 1), (-1, 2), (1, 3), (5, 2), (LIMIT, 1), (-LIMIT, 1), (1, LIMIT), (LIMIT - 1, LIMIT))
NAMES = ("a", "b", "c", "d", "e", "f", "g", "h", "i")
KINDS = ("number", "word", "flag")


def some_value(chance, kind, missing=True):
    if missing and chance.random() < 0.2:
        return None
    if kind == "number":
        return chance.choice(NUMBERS[:6] if chance.random() < 0.85 else NUMBERS)
    return chance.choice(WORDS if kind == "word" else (True, False))


def some_columns(chance, most=4):
    names = chance.sample(NAMES[:6], chance.randint(1, most))
    return tuple([(name, chance.choice(KINDS)) for name in names])


def some_row(chance, columns):
    return tuple([some_value(chance, kind) for name, kind in columns])


def some_expression(chance, columns, kind, depth=4):
    """A valid expression of that kind."""
    fitting = [("column", name) for name, held in columns if held == kind]
    if depth == 1 or chance.random() < 0.3:
        return chance.choice(fitting + [("value", some_value(chance, kind, missing=False))])

    def of(wanted):
        return some_expression(chance, columns, wanted, depth - 1)
    if kind == "number" and chance.random() < 0.8:
        return (chance.choice(("plus", "minus", "times", "over")), of("number"), of("number"))
    if kind == "flag" and chance.random() < 0.9:
        word = chance.choice(("less", "same", "both", "either", "not", "missing"))
        if word == "less":
            return (word, of("number"), of("number"))
        if word in ("same", "missing"):
            held = chance.choice(KINDS)
            return (word, of(held), of(held)) if word == "same" else (word, of(held))
        return (word, of("flag")) if word == "not" else (word, of("flag"), of("flag"))
    return ("if", of("flag"), of(kind), of(kind))


def some_step(chance, tables, columns):
    """A step that is often valid; tables is a dict from names to columns."""
    names = [name for name, kind in columns]
    word = chance.choice(("keep", "set", "select", "rename", "sort", "first", "sample", "join", "union", "group", "distinct"))
    if word == "keep":
        return (word, some_expression(chance, columns, "flag"))
    if word == "set":
        return (word, chance.choice(NAMES), some_expression(chance, columns, chance.choice(KINDS)))
    if word == "select":
        return (word, tuple(chance.sample(names, chance.randint(1, len(names)))))
    if word == "rename":
        return (word, chance.choice(names), chance.choice(NAMES))
    if word == "sort":
        return (word, chance.choice(names), chance.choice(("up", "down")))
    if word == "first":
        return (word, chance.choice((0, 1, 2, 5, 1000)))
    if word == "sample":
        whole = chance.randint(1, 4)
        return (word, chance.randint(0, whole), whole, chance.randint(0, 10 ** 9))
    other = chance.choice(sorted(tables))
    if word == "union":
        same = [name for name in sorted(tables) if tables[name] == columns]
        return (word, chance.choice(same) if same else other)
    if word == "join":
        shared = [name for name, kind in columns if (name, kind) in tables[other]]
        return (word, other, tuple(shared[:3]))
    if word == "group":
        keys = chance.sample(names, min(len(names), chance.randint(0, 3)))
        totals = []
        for name in chance.sample(("t", "u", "v", "a", "b"), chance.randint(1, 3)):
            column = chance.choice(columns)
            functions = ("count", "sum", "mean", "median", "least", "greatest") if column[1] == "number" else ("count",)
            totals.append((name, chance.choice(functions), column[0]))
        return (word, tuple(keys), tuple(totals))
    return (word,)


def some_choose(chance, tables, columns, numbers):
    label = chance.choice(("x", "y", "z"))
    count = numbers.get(label, chance.randint(2, 3))
    alternatives = []
    for alternative in range(count):
        steps = []
        for turn in range(chance.randint(0, 2)):
            step = some_step(chance, tables, columns)
            # Most of these leave the columns as they are.
            if step[0] in ("keep", "sort", "first", "sample", "distinct", "union"):
                steps.append(step)
        alternatives.append(tuple(steps))
    return ("choose", label, tuple(alternatives))


def some_pipeline(chance, tables, check, refused, numbers=None, most=6):
    """A pipeline that check accepts: each step is tried, and left out if check refuses it."""
    source = chance.choice(sorted(tables))
    steps = ()
    numbers = {} if numbers is None else dict(numbers)
    for turn in range(chance.randint(0, most)):
        columns = check(tables, (source, steps))
        if chance.random() < 0.25:
            step = some_choose(chance, tables, columns, numbers)
        else:
            step = some_step(chance, tables, columns)
        try:
            check(tables, (source, steps + (step,)))
        except refused:
            continue
        steps = steps + (step,)
        if step[0] == "choose":
            numbers[step[1]] = len(step[2])
    return (source, steps)
