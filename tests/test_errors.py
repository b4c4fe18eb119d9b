"""The error classes: their bases, their fields, and that none stands under another."""

import inspect
import unittest

from liveclaims import errors, exact, registers

FIELDS_UNDER = {
    ValueError: {
        "BadNumber": ("given",), "BadName": ("given",), "BadColumns": ("index",), "BadRow": ("index",),
        "BadExpression": ("path",), "BadStep": ("index",), "BadRegisters": ("index",), "BadLabel": ("label",),
        "BadClaim": (), "BadSentence": ("part",), "NotRowwise": ("cell",), "BadEdition": ("place",),
        "BadText": ("position",), "BadLine": (),
    },
    KeyError: {"UnknownName": ("key",)},
    IndexError: {"NoRow": ("number",), "NoVersion": ("given",), "NoLine": ("number",), "NoEdition": ("number",)},
    ZeroDivisionError: {"DivisionByZero": ()},
    OverflowError: {"TooLarge": ("size",)},
    LookupError: {"Cycle": ("key",), "Breaks": ("key",), "InUse": ("users",)},
    RuntimeError: {
        "BadChoice": ("label",), "Missing": ("line", "part"), "OutOfScale": ("line", "part"),
        "FalseClaim": ("line", "part"), "Exists": ("paper", "number"), "Already": (),
    },
}
ODD_VALUES = (None, True, 0, -3, "a", "", b"a", 1.5, (1, 2), [1], {"a": 1})


def listed():
    return [(base, getattr(errors, name), fields)
            for base, group in FIELDS_UNDER.items() for name, fields in group.items()]


class TestErrors(unittest.TestCase):
    def test_every_class_stands_under_the_class_that_is_named(self):
        for base, error, fields in listed():
            with self.subTest(error=error.__name__):
                self.assertEqual(error.__bases__, (base,))

    def test_fields_by_position(self):
        for base, error, fields in listed():
            given = [object() for field in fields]
            made = error(*given)
            for field, value in zip(fields, given):
                with self.subTest(error=error.__name__, field=field):
                    self.assertIs(getattr(made, field), value)

    def test_fields_by_name_in_any_order(self):
        for base, error, fields in listed():
            given = {field: object() for field in reversed(fields)}
            made = error(**given)
            for field in fields:
                with self.subTest(error=error.__name__, field=field):
                    self.assertIs(getattr(made, field), given[field])

    def test_no_other_number_of_fields(self):
        for base, error, fields in listed():
            with self.subTest(error=error.__name__):
                if fields:
                    self.assertRaises(TypeError, error)
                    self.assertRaises(TypeError, error, *fields, "more")
                    self.assertRaises(TypeError, error, **{"other": 1})

    def test_fields_take_any_value(self):
        for base, error, fields in listed():
            for value in ODD_VALUES:
                made = error(*[value for field in fields])
                for field in fields:
                    with self.subTest(error=error.__name__, value=value):
                        self.assertIs(getattr(made, field), value)

    def test_each_is_raised_and_caught_by_its_own_name_and_by_its_base(self):
        for base, error, fields in listed():
            for caught in (error, base):
                with self.subTest(error=error.__name__, caught=caught.__name__):
                    with self.assertRaises(caught):
                        raise error(*fields)

    def test_no_class_of_the_package_stands_under_another(self):
        classes = []
        for module in (errors, exact, registers):
            for name, found in inspect.getmembers(module, inspect.isclass):
                if found.__module__.startswith("liveclaims.") and found not in classes:
                    classes.append(found)
        self.assertGreater(len(classes), 30)
        for one in classes:
            for other in classes:
                if one is not other:
                    with self.subTest(one=one.__name__, other=other.__name__):
                        self.assertFalse(issubclass(one, other))


if __name__ == "__main__":
    unittest.main()
