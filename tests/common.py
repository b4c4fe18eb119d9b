"""What several tests use."""

import unittest

from liveclaims.registers import Register

LIMIT = 10 ** 40

# "For any value": things of every kind, none of which is a name that the tests use.
ODD_THINGS = (
    None, True, False, 0, 1, -1, 1.5, float("nan"), 10 ** 50, "", "A", "no such", "abcdefghijklm", "\n", b"a", b"", [], ["a"],
    (), ("a",), ("a", "b"), (1, 2), (None,), {}, {"a": 1}, set(), {"a"}, frozenset(["a"]), range(3), len, str, object(),
    Register("odd", (("a", "number"),)), ((((("a",),),),),), [[[]]],
)


class Case(unittest.TestCase):
    def refused(self, error, call, *given, **named):
        with self.assertRaises(error) as caught:
            call(*given, **named)
        self.assertIs(type(caught.exception), error, (given, named))
        return caught.exception

    def same(self, found, expected):
        """Equal also by its kinds: True is not 1 here, nor a list a tuple."""
        self.assertEqual(repr(found), repr(expected))


def number(n, d=1):
    return ("value", (n, d))


def col(name):
    return ("column", name)
