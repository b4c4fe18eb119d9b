"""Promise [32]: reading expressions."""

import random
import re
import unittest
from math import gcd

import reference
from common import LIMIT, ODD_THINGS, Case, col, number
from liveclaims.errors import BadText
from liveclaims.reading import read_expression
from liveclaims.writing import show_expression
from test_writing import FORMS

WORDS = {"plus": 2, "minus": 2, "times": 2, "over": 2, "less": 2, "same": 2, "both": 2, "either": 2, "not": 1, "missing": 1, "if": 3}


# A second way to find the position: a machine that keeps how many operands each open bracket lacks.

def is_leaf(token):
    if re.fullmatch("[a-z][a-z0-9]{0,11}", token) or re.fullmatch("='[a-z][a-z0-9]{0,11}", token) or token in ("=#yes", "=#no"):
        return True
    found = re.fullmatch("=(-?)(0|[1-9][0-9]*)(/([1-9][0-9]*))?", token, re.ASCII)
    if not found or len(token) > 100:
        return False
    n, d = int(found.group(2)), int(found.group(4) or 1)
    if (found.group(1) and n == 0) or (found.group(4) and d == 1) or n > LIMIT or d > LIMIT:
        return False
    return gcd(n, d) == 1


def wrong_position(text):
    """The position that BadText should tell, or None."""
    lacking = []
    state = "form"
    for found in re.finditer(r"\(|\)| |[^() ]+", text, re.DOTALL):
        piece = found.group()
        if state == "form" and len(lacking) < 8 and piece == "(":
            state = "word"
        elif state == "form" and len(lacking) < 8 and is_leaf(piece):
            state = "behind"
        elif state == "word" and piece in WORDS:
            lacking.append(WORDS[piece])
            state = "behind word"
        elif state in ("behind", "behind word") and piece == " " and lacking and lacking[-1] > (state == "behind"):
            lacking[-1] -= state == "behind"
            state = "form"
        elif state == "behind" and piece == ")" and lacking and lacking[-1] == 1:
            lacking.pop()
        else:
            return found.start()
    return None if state == "behind" and not lacking else len(text)


def nested(depth, inside="c"):
    """A form of that depth."""
    return "(not " * (depth - 1) + inside + ")" * (depth - 1)


class TestRead(Case):
    def told(self, text, position):
        self.same(self.refused(BadText, read_expression, text).position, position)

    def test_example(self):
        self.same(read_expression("(not (same a ='b))"), ("not", ("same", col("a"), ("value", "b"))))
        self.same(read_expression(text="a"), col("a"))

    def test_each_form_is_read_back(self):
        for expression, text in FORMS:
            self.same(read_expression(text), expression)
            self.same(read_expression(show_expression(expression)), expression)

    def test_kinds_and_columns_are_not_asked(self):
        self.same(read_expression("(plus ='a =#yes)"), ("plus", ("value", "a"), ("value", True)))
        self.same(read_expression("(not nowhere)"), ("not", col("nowhere")))
        self.same(read_expression("(if =1 a ='b)"), ("if", number(1), col("a"), ("value", "b")))
        self.same(read_expression("(less less not)"), ("less", col("less"), col("not")))
        self.same(read_expression("column"), col("column"))

    def test_any_value(self):
        for thing in ODD_THINGS:
            if not isinstance(thing, str):
                self.told(thing, 0)
        for text, position in (("", 0), ("A", 0), ("no such", 2), ("abcdefghijklm", 0), ("\n", 0), ("\xe9", 0), ("\ud800", 0)):
            self.told(text, position)

    def test_leaves(self):
        for token in ("=", "='", "='A", "='abcdefghijklm", "=a", "=#", "=#maybe", "=#Yes", "#yes", "'a", "==1", "=-", "=--1", "=+1", "=01", "=00",
                      "=-0", "=-01", "=1/1", "=1/0", "=0/1", "=0/2", "=2/4", "=-2/4", "=1/02", "=1/-2", "=-1/-2", "=1/", "=/2", "=1/2/3", "=1.5",
                      "=1e3", "=1_0", "=\u0661", "=1\u0661", "1", "9a", "a_b", "a-b", "a,b", "aB", "=None", "=True", "=1/1" + "0" * 41,
                      "=1" + "0" * 41, "=-1" + "0" * 41, "=1" + "0" * 39 + "1" * 2, "=1/" + "9" * 41, "=" + "9" * 5000, "=1/" + "9" * 5000,
                      "=-" + "1" * 100000, "='" + "a" * 5000, "=\t1", "=1\n", "\na", "a\n", "a\t"):
            self.told(token, 0)
            self.told("(not " + token + ")", 5)
            self.told("(both a " + token, 8)
        for token in ("=0", "=-1/2", "=1" + "0" * 40, "=-1" + "0" * 40, "=1/1" + "0" * 40, "='a", "=#yes"):
            read_expression(token)

    def test_named_places(self):
        for text, position in (
                (" a", 0), ("a ", 1), ("a b", 1), ("a)", 1), ("a(", 1), (")", 0), ("(", 1), ("()", 1), ("( not a)", 1), ("((not a))", 1),
                ("(nota b)", 1), ("(column a)", 1), ("(value a)", 1), ("(Not a)", 1), ("(not", 4), ("(not ", 5), ("(not)", 4), ("(not )", 5),
                ("(not  a)", 5), ("(not a", 6), ("(not a )", 6), ("(not a b)", 6), ("(not a))", 7), ("(not a) ", 7), ("(not a)b", 7), ("(not a)(", 7),
                ("(plus a)", 7), ("(plus a )", 8), ("(plus a", 7), ("(plus a b", 9), ("(plus a b c)", 9), ("(plus a  b)", 8), ("(if a b)", 7),
                ("(if a b c d)", 9), ("(not(not a))", 4), ("(not (not a)", 12), ("(not (not a) )", 12), ("(not (not a)a)", 12), ("(not a(", 6),
                ("(less (plus a =1/2) =-3", 23), ("(less (plus a =2/4) =-3", 14), ("(=1 a)", 1), ("(not\ta)", 1), ("(not a)\n", 7), ("\n(not a)", 0)):
            self.told(text, position)
            self.assertEqual(wrong_position(text), position)

    def test_depth(self):
        for inside in ("c", "=#yes", "='a", "=1/2"):
            read_expression(nested(8, inside))
            self.told(nested(9, inside), 40)
            self.told(nested(10, inside), 40)
        # A bracket, its word and the blank behind it may stand where only deeper forms could follow.
        self.told("(not " * 8, 40)
        self.told("(not " * 7 + "(not", 39)
        self.told("(not " * 7 + "(nut a", 36)
        self.told("(not " * 8 + "(", 40)
        self.told("(not " * 8 + ")", 40)
        self.told("(not " * 8 + " ", 40)
        self.told("(not " * 8 + "?", 40)
        self.told("(not " * 7 + "(plus", 40)
        self.told("(not " * 7 + "(plus ", 41)
        self.told("(not " * 7 + "(plus a b)", 41)
        self.told("(not " * 7 + "(not)", 39)
        self.told("(not " * 100000, 40)
        self.told("(" * 100000, 1)
        wide = "(both " + nested(7) + " " + nested(7) + ")"
        read_expression(wide)
        self.told("(both " + nested(7) + " " + nested(8) + ")", 6 + len(nested(7)) + 1 + 35)

    def test_cut_short(self):
        for expression, text in FORMS:
            for end in range(len(text)):
                cut = text[:end]
                position = wrong_position(cut)
                if position is None:
                    read_expression(cut)
                else:
                    self.told(cut, position)

    def test_one_sign_changed(self):
        signs = "()  =#'/-ab0129\n?"
        chance = random.Random(32)
        texts = [text for expression, text in FORMS] + [
            show_expression(reference.some_expression(chance, (("a", "number"), ("b", "flag")), "flag", depth=6)) for turn in range(12)]
        read = 0
        for text in texts:
            if len(text) > 300:
                continue
            for at in range(len(text) + 1):
                changed = [text[:at] + text[at + 1:]] + [text[:at] + sign + text[at:] for sign in signs]
                changed += [text[:at] + sign + text[at + 1:] for sign in signs]
                for wrong in changed:
                    position = wrong_position(wrong)
                    if position is None:
                        self.same(show_expression(read_expression(wrong)), wrong)
                        read += 1
                    else:
                        self.told(wrong, position)
        self.assertGreater(read, 200)

    def test_read_back_by_chance(self):
        chance = random.Random(33)
        columns = (("a", "number"), ("b", "flag"), ("c", "word"))
        for turn in range(300):
            expression = reference.some_expression(chance, columns, chance.choice(("number", "flag", "word")), depth=chance.randint(1, 8))
            text = show_expression(expression)
            self.same(read_expression(text), expression)
            self.assertIsNone(wrong_position(text))


if __name__ == "__main__":
    unittest.main()
