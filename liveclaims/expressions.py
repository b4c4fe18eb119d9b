"""Expressions over the columns of one row: their kinds and their values."""

from liveclaims.errors import BadExpression
from liveclaims.exact import add, compare, divide, multiply, subtract
from liveclaims.registers import KINDS, is_value, within_limit

DEEPEST = 8
# What the operands must be; None stands for any kind.
OPERANDS = {
    "plus": ("number", "number"),
    "minus": ("number", "number"),
    "times": ("number", "number"),
    "over": ("number", "number"),
    "less": ("number", "number"),
    "same": (None, None),
    "both": ("flag", "flag"),
    "either": ("flag", "flag"),
    "not": ("flag",),
    "missing": (None,),
    "if": ("flag", None, None),
}
ARITHMETIC = ("plus", "minus", "times", "over")
# The last two operands of these must have one kind.
PAIRED = ("same", "if")


def kind_of(columns, expression):
    kinds = {name: kind for name, kind in columns}
    return kind_at(kinds, expression, ())


def kind_or_none(columns, expression):
    """The result's kind, or None if the expression is invalid."""
    try:
        return kind_of(columns, expression)
    except BadExpression:
        return None


def kind_at(kinds, part, path):
    if len(path) >= DEEPEST or not has_word(part):
        raise BadExpression(path)
    word = part[0]
    if word == "column" or word == "value":
        kind = leaf_kind(kinds, part)
        if kind is None:
            raise BadExpression(path)
        return kind
    if word not in OPERANDS or len(part) != len(OPERANDS[word]) + 1:
        raise BadExpression(path)
    found = [kind_at(kinds, operand, path + (at,)) for at, operand in enumerate(part[1:])]
    check_operands(word, found, path)
    return result_kind(word, found)


def has_word(part):
    return isinstance(part, tuple) and len(part) > 0 and isinstance(part[0], str)


def leaf_kind(kinds, part):
    """The kind of a column or a value, or None if it is invalid."""
    if len(part) != 2:
        return None
    word, held = part
    if word == "column":
        # A thing that is no text may not be one that can be looked up.
        return kinds.get(held) if isinstance(held, str) else None
    return kind_of_value(held)


def kind_of_value(value):
    if value is None:
        return None
    fitting = [kind for kind in KINDS if is_value(value, kind)]
    return fitting[0] if len(fitting) > 0 else None


def check_operands(word, found, path):
    for at, wanted in enumerate(OPERANDS[word]):
        if wanted is not None and found[at] != wanted:
            raise BadExpression(path + (at,))
    if word in PAIRED and found[-2] != found[-1]:
        raise BadExpression(path + (len(found) - 1,))


def result_kind(word, found):
    if word == "if":
        return found[-1]
    return "number" if word in ARITHMETIC else "flag"


def limited(number):
    """The number, or None, which is missing, if it is above the limit."""
    return number if within_limit(number) else None


def plus(a, b):
    return limited(add(a, b))


def minus(a, b):
    return limited(subtract(a, b))


def times(a, b):
    return limited(multiply(a, b))


def over(a, b):
    if b[0] == 0:
        return None
    return limited(divide(a, b))


def less(a, b):
    return compare(a, b) < 0


def same(a, b):
    return a == b


def both(a, b):
    if a is False or b is False:
        return False
    return None if a is None or b is None else True


def either(a, b):
    if a is True or b is True:
        return True
    return None if a is None or b is None else False


# The result of these is missing if an operand is.
STRICT = {"plus": plus, "minus": minus, "times": times, "over": over, "less": less, "same": same}
LENIENT = {"both": both, "either": either}


def evaluate(columns, values, expression):
    row = {name: value for (name, kind), value in zip(columns, values)}
    return worth(row, expression)


def worth(row, part):
    word = part[0]
    if word == "column":
        return row[part[1]]
    if word == "value":
        return part[1]
    operands = [worth(row, operand) for operand in part[1:]]
    if len(operands) == 2:
        return worth_of_two(word, operands[0], operands[1])
    if word == "missing":
        return operands[0] is None
    if operands[0] is None:
        return None
    if word == "not":
        return operands[0] is False
    return operands[1] if operands[0] is True else operands[2]


def worth_of_two(word, a, b):
    if word in LENIENT:
        weigh = LENIENT[word]
        return weigh(a, b)
    if a is None or b is None:
        return None
    work = STRICT[word]
    return work(a, b)
