"""Reading expressions and numbers from texts."""

from liveclaims.errors import BadText
from liveclaims.exact import is_rational
from liveclaims.expressions import DEEPEST, OPERANDS
from liveclaims.registers import is_name, within_limit

DIGITS = "0123456789"
# As many as the limit has: a longer number is above it, whatever its digits are.
MOST_DIGITS = 41
# Each of these is a piece of its own.
SINGLE_SIGNS = "() "


def read_whole(text):
    """The integer from zero on that is so written, or None, also if it has too many digits."""
    if text == "" or len(text) > MOST_DIGITS or not all([sign in DIGITS for sign in text]):
        return None
    if text[0] == "0" and text != "0":
        return None
    return int(text)


def read_rational(text):
    """The rational within the limit that is so written, or None."""
    above, slash, below = text.partition("/")
    size = read_whole(above.removeprefix("-"))
    d = 1 if slash == "" else read_whole(below)
    if size is None or d is None or (slash != "" and d == 1):
        return None
    negative = above.startswith("-")
    if negative and size == 0:
        return None
    number = (-size if negative else size, d)
    return number if is_rational(number) and within_limit(number) else None


def read_value(text):
    """The value that is so written behind its sign of equality, or None."""
    if text == "#yes" or text == "#no":
        return text == "#yes"
    if text.startswith("'"):
        word = text[1:]
        return word if is_name(word) else None
    return read_rational(text)


def read_leaf(token):
    """The column or value that a token stands for, or None."""
    if is_name(token):
        return ("column", token)
    if not token.startswith("="):
        return None
    value = read_value(token[1:])
    return None if value is None else ("value", value)


def pieces_of(text):
    """The tokens and blanks as tuples (position, piece), and an empty piece for the end."""
    pieces = []
    start = 0
    for at, sign in enumerate(text):
        if sign in SINGLE_SIGNS:
            if start < at:
                pieces.append((start, text[start:at]))
            pieces.append((at, sign))
            start = at + 1
    if start < len(text):
        pieces.append((start, text[start:]))
    pieces.append((len(text), ""))
    return pieces


def check_piece(pieces, at, wanted):
    position, piece = pieces[at]
    if piece != wanted:
        raise BadText(position)


# Each of these returns an expression and the number of the piece behind it.


def read_form(pieces, at, depth):
    position, piece = pieces[at]
    if depth > DEEPEST:
        raise BadText(position)
    if piece == "(":
        return read_operation(pieces, at + 1, depth)
    leaf = read_leaf(piece)
    if leaf is None:
        raise BadText(position)
    return (leaf, at + 1)


def read_operation(pieces, at, depth):
    position, word = pieces[at]
    if word not in OPERANDS:
        raise BadText(position)
    parts = [word]
    behind = at + 1
    for kind in OPERANDS[word]:
        check_piece(pieces, behind, " ")
        operand, behind = read_form(pieces, behind + 1, depth + 1)
        parts.append(operand)
    check_piece(pieces, behind, ")")
    return (tuple(parts), behind + 1)


def read_expression(text):
    if not isinstance(text, str):
        raise BadText(0)
    pieces = pieces_of(text)
    expression, behind = read_form(pieces, 0, 1)
    check_piece(pieces, behind, "")
    return expression
