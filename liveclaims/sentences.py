"""Sentences: which parts they may have, what the holes among these are worth, and how they are printed."""

from liveclaims.claims import cells_of, is_claim, is_measure, measure_in, truth_in
from liveclaims.errors import BadSentence
from liveclaims.exact import (MOST_PLACES, compare, decimal, divide, is_rational, is_whole, multiply, nearest_units,
                              subtract)
from liveclaims.registers import is_name
from liveclaims.steps import is_between, is_tuple_of, word_of
from liveclaims.tables import union_of
from liveclaims.writing import show_expression, show_rational

MOST_PARTS = 12
LONGEST_TEXT = 80
WIDEST = 60
MOST_GROUPS = 4
MOST_CITATIONS = 4
# Holes are written with digits and these two, so that no text can be taken for one.
BARRED_SIGNS = "#?0123456789"
PER_CENT = 37


def words_of_measure(measure):
    function, cell, column = measure
    return f"{function} of {column} in {cell}"


def claim_words(claim):
    word = claim[0]
    if word == "rises":
        return f"{claim[2]} rises in {claim[1]}"
    if word == "top":
        return f"{claim[3]} has the greatest {claim[4]} in {claim[1]}"
    bound = show_rational(claim[-1])
    if word == "share":
        return f"more than {bound} of {claim[1]} have {show_expression(claim[2])}"
    first = words_of_measure(claim[1])
    if word == "more":
        return f"{first} is greater than {words_of_measure(claim[2])} by more than {bound}"
    return f"{first} is at {word} {bound}"


# Each of these says whether things may stand in a sentence; shapes is a dict from the cells' names to their columns.


def is_printable_sign(sign):
    return " " <= sign <= "~" and sign not in BARRED_SIGNS and ord(sign) != PER_CENT


def fits_text(shapes, part):
    words = part[1]
    if not isinstance(words, str) or words == "" or len(words) > LONGEST_TEXT:
        return False
    return all([is_printable_sign(sign) for sign in words])


def fits_number(shapes, part):
    return is_measure(shapes, part[1]) and is_between(part[2], 0, MOST_PLACES)


def fits_bar(shapes, part):
    word, measure, low, high, width = part
    if not is_measure(shapes, measure) or not is_rational(low) or not is_rational(high):
        return False
    return compare(low, high) < 0 and is_between(width, 1, WIDEST)


def is_citation(thing):
    if not is_tuple_of(thing, 4, 4):
        return False
    paper, edition, line, part = thing
    if not is_whole(edition) or not is_whole(line) or not is_whole(part):
        return False
    return is_name(paper) and edition >= 1 and line >= 0 and part >= 0


def is_group(thing):
    return is_tuple_of(thing, 1, MOST_CITATIONS) and all([is_citation(cited) for cited in thing])


def fits_claim(shapes, part):
    word, claim, groups = part
    if not is_claim(shapes, claim) or not is_tuple_of(groups, 0, MOST_GROUPS):
        return False
    return all([is_group(group) for group in groups])


LENGTHS = {"text": 2, "number": 3, "bar": 5, "claim": 3}
FITS = {"text": fits_text, "number": fits_number, "bar": fits_bar, "claim": fits_claim}


def is_part(shapes, thing):
    word = word_of(thing)
    if word not in LENGTHS or len(thing) != LENGTHS[word]:
        return False
    fits = FITS[word]
    return fits(shapes, thing)


def check_sentence(shapes, sentence):
    if not is_tuple_of(sentence, 1, MOST_PARTS):
        raise BadSentence(None)
    for at, part in enumerate(sentence):
        if not is_part(shapes, part):
            raise BadSentence(at)


def is_hole(part):
    return part[0] != "text"


def holes_in(sentences):
    """A list of tuples (line, part, the part itself) of all holes, in order."""
    return [(line, at, part) for line, sentence in enumerate(sentences) for at, part in enumerate(sentence)
            if is_hole(part)]


def hole_cells(hole):
    """The cells in a hole's measure or claim, ascending."""
    return cells_of(hole[1]) if hole[0] == "claim" else [hole[1][1]]


# From here on tables is a dict from cells to their Tables.


def hole_value(tables, hole):
    """A rational or a truth; None if it is missing or unknown."""
    return truth_in(tables, hole[1]) if hole[0] == "claim" else measure_in(tables, hole[1])


def hole_lineage(tables, hole):
    return union_of([tables[cell].lineage() for cell in hole_cells(hole)])


def is_in_scale(bar, value):
    word, measure, low, high, width = bar
    return compare(low, value) <= 0 and compare(value, high) <= 0


def show_bar(bar, value):
    word, measure, low, high, width = bar
    way = divide(subtract(value, low), subtract(high, low))
    return "#" * nearest_units(multiply(way, (width, 1)), 1)


def show_hole(hole, value):
    """How a hole of that value is printed, or None if it cannot be."""
    if hole[0] == "claim":
        return claim_words(hole[1]) if value is True else None
    if value is None:
        return None
    if hole[0] == "number":
        return decimal(value, places=hole[2])
    return show_bar(hole, value) if is_in_scale(hole, value) else None


def show_part(tables, part):
    """How a valid part is printed, or None if it cannot be, also if one of its cells has no table."""
    if not is_hole(part):
        return part[1]
    if any([cell not in tables for cell in hole_cells(part)]):
        return None
    return show_hole(part, hole_value(tables, part))
