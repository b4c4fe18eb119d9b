"""What several tests use."""

import unittest

from liveclaims.notebooks import Notebook
from liveclaims.registers import Register

LIMIT = 10 ** 40

# "For any value": things of every kind, none of which is a name that the tests use.
ODD_THINGS = (
    None, True, False, 0, 1, -1, 1.5, float("nan"), 10 ** 50, "", "A", "no such", "abcdefghijklm", "\n", b"a", b"", [], ["a"],
    (), ("a",), ("a", "b"), (1, 2), (None,), {}, {"a": 1}, set(), {"a"}, frozenset(["a"]), range(3), len, str, object(),
    Register("odd", (("a", "number"),)), ((((("a",),),),),), [[[]]],
)


class Case(unittest.TestCase):
    def refused(self, error, call, *given, **named):
        with self.assertRaises(error) as caught:
            call(*given, **named)
        self.assertIs(type(caught.exception), error, (given, named))
        return caught.exception

    def same(self, found, expected):
        """Equal also by its kinds: True is not 1 here, nor a list a tuple."""
        self.assertEqual(repr(found), repr(expected))


def prices():
    """The document's setup r."""
    r = Register("prices", (("item", "word"), ("cost", "number")))
    r.add(("lamp", (170, 1)), author="bo")
    r.add(("desk", None), author="bo")
    r.correct(1, ("desk", (181, 1)), author="di")
    r.strike(0, author="di")
    return r


def dear():
    """The document's setup nb: the register and the notebook."""
    r = prices()
    nb = Notebook([r])
    nb.put("dear", ("prices", (("keep", ("less", ("value", (175, 1)), ("column", "cost"))),)))
    return r, nb


GOODS = (("item", "word"), ("cost", "number"), ("sold", "flag"))


def goods(name="r", rows=3):
    """A register of the columns GOODS."""
    r = Register(name, GOODS)
    for at in range(rows):
        r.add(("abcdefgh"[at % 8], (at, 1), at % 2 == 0), author="bo")
    return r


def number(n, d=1):
    return ("value", (n, d))


def col(name):
    return ("column", name)
