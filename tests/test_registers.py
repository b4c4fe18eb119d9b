"""Promises [7], [8] and [9]: names, values, columns, registers."""

import unittest

from common import Case, prices
from liveclaims.errors import BadColumns, BadName, BadRow, NoRow, NoVersion, TooLarge
from liveclaims.registers import Register, check_columns, is_name, is_value

KINDS = ("number", "word", "flag")
LIMIT = 10 ** 40
COLUMNS = (("item", "word"), ("cost", "number"), ("sold", "flag"))
ROW = ("lamp", (170, 1), True)
OTHER_ROW = ("desk", None, False)

GOOD_NAMES = ("a", "z", "m", "ab", "a1", "z9", "a0", "a0123456789b", "abcdefghijkl", "mnopqrstuvwx", "yz", "a11111111111")
BAD_NAMES = (
    "", "abcdefghijklm", "a123456789012", "a" * 100, "1", "0", "9a", "1a", "12", "A", "Z", "Ab", "aB", "abC1", "a_b", "_",
    "_a", "a-b", "a b", " a", "a ", " ", "a.b", "a'", "a/b", "a\n", "\na", "\n", "a\t", "a\r", "a\0", "a`", "a{", "a@", "a[",
    "a:", "\u00e9", "a\u00e9", "\u00df", "\u03b1", "a\u03b1", "\uff41", "a\uff41", "a\u0661", "\u0661", "a\u00b2",
    "a\u0967", "a\uff11", "\u0131", "a\u017f", "\u02b0",
)
NOT_TEXTS = (
    None, True, False, 0, 1, -1, 1.0, float("nan"), b"a", b"", ["a"], [], ("a",), (), ("a", "b"), {"a": 1}, {}, {"a"},
    frozenset(["a"]), range(2), len, str, Register("a", (("a", "word"),)),
)
WRONG_NUMBERS = (-1, -2, True, False, None, 0.0, 1.0, 0.5, float("nan"), "0", "1", "", b"0", [], [0], (), (0,), (0, 1), {},
                 {0: 0}, {0}, len, Register("a", (("a", "word"),)), LIMIT, -LIMIT)


def state(r):
    return (r.name(), r.columns(), r.version(), len(r), r.rows(), r.entries(),
            [r.rows(version) for version in range(r.version() + 1)],
            [r.authors(entry[1]) for entry in r.entries() if entry[0] == "add"])


class TestNames(Case):
    def test_names(self):
        for value in GOOD_NAMES:
            self.assertIs(is_name(value), True, value)

    def test_every_letter_and_digit(self):
        for sign in "abcdefghijklmnopqrstuvwxyz":
            self.assertIs(is_name(sign), True)
            self.assertIs(is_name("a" + sign), True)
        for sign in "0123456789":
            self.assertIs(is_name(sign), False)
            self.assertIs(is_name("a" + sign), True)

    def test_every_other_sign(self):
        allowed = "abcdefghijklmnopqrstuvwxyz0123456789"
        for code in range(0x3000):
            if chr(code) not in allowed:
                self.assertIs(is_name(chr(code)), False, code)
                self.assertIs(is_name("a" + chr(code)), False, code)
                self.assertIs(is_name("a" + chr(code) + "b"), False, code)

    def test_lengths(self):
        for length in range(20):
            self.assertIs(is_name("a" * length), 1 <= length <= 12)
            self.assertIs(is_name("b" + "7" * length), length <= 11)

    def test_other_texts_and_values(self):
        for value in BAD_NAMES + NOT_TEXTS:
            self.assertIs(is_name(value), False, repr(value))

    def test_argument_by_name(self):
        self.assertIs(is_name(value="a"), True)


class TestValues(Case):
    def check(self, value, kinds):
        for kind in KINDS:
            self.assertIs(is_value(value, kind), kind in kinds, (value, kind))

    def test_example(self):
        self.assertIs(is_value((1, 2), "word"), False)

    def test_missing_is_of_every_kind(self):
        self.check(None, KINDS)

    def test_flags(self):
        self.check(True, ("flag",))
        self.check(False, ("flag",))
        for value in (1, 0, 1.0, 0.0, "True", "yes", "", (), [], {}, b""):
            self.assertIs(is_value(value, "flag"), False, repr(value))

    def test_one_and_zero_are_of_no_kind(self):
        for value in (1, 0, -1, 1.0, 0.0):
            self.check(value, ())

    def test_words(self):
        for value in GOOD_NAMES:
            self.check(value, ("word",))
        for value in BAD_NAMES:
            self.check(value, ())

    def test_numbers(self):
        for value in ((0, 1), (1, 1), (-1, 1), (1, 2), (-7, 3), (170, 1)):
            self.check(value, ("number",))
        for value in ((2, 4), (0, 2), (1, 0), (1, -1), (True, 1), (1, True), (False, 1), (1, 2, 3), (1,), (), [1, 2],
                      (1.0, 1), (1, 1.0), ("1", "2"), (None, 1), (1, None), ([1], 1)):
            self.check(value, ())

    def test_numbers_at_the_limit(self):
        for value in ((LIMIT, 1), (-LIMIT, 1), (1, LIMIT), (-1, LIMIT), (LIMIT - 1, LIMIT), (1 - LIMIT, LIMIT),
                      (LIMIT, LIMIT - 1), (-LIMIT, LIMIT - 1)):
            self.check(value, ("number",))

    def test_numbers_above_the_limit(self):
        above = LIMIT + 1
        for value in ((above, 1), (-above, 1), (1, above), (-1, above), (0 - above, 7), (above, LIMIT), (-above, LIMIT),
                      (LIMIT, above), (-LIMIT, above), (above, above + 1), (10 * LIMIT, 1), (1, 10 * LIMIT)):
            self.check(value, ())

    def test_arguments_by_name(self):
        self.assertIs(is_value(kind="word", value="a"), True)
        self.assertIs(is_value("a", kind="number"), False)

    def test_values_of_other_kinds(self):
        for value in NOT_TEXTS:
            if value is not None and not isinstance(value, bool):
                self.check(value, ())


class TestColumns(Case):
    def index(self, columns):
        return self.refused(BadColumns, check_columns, columns).index

    def some(self, many):
        return tuple(("c" + str(at), KINDS[at % 3]) for at in range(many))

    def test_columns(self):
        for many in range(1, 9):
            self.assertIsNone(check_columns(self.some(many)))
        for kind in KINDS:
            self.assertIsNone(check_columns(columns=(("abcdefghijkl", kind),)))
        self.assertIsNone(check_columns((("number", "word"), ("word", "word"), ("flag", "word"))))

    def test_example(self):
        self.assertEqual(self.index((("a", "number"), ("a", "word"))), 1)

    def test_how_many(self):
        self.assertIsNone(self.index(()))
        self.assertIsNone(self.index(self.some(9)))
        self.assertIsNone(self.index(self.some(30)))
        self.assertIsNone(self.index(self.some(8) + (5,)))
        self.assertIsNone(self.index((5,) + self.some(8)))

    def test_no_tuple(self):
        for value in NOT_TEXTS + ("", "a", "ab", [("a", "number")], {("a", "number"): 1}, {("a", "number")}):
            if not isinstance(value, tuple):
                self.assertIsNone(self.index(value), repr(value))

    def test_wrong_things(self):
        wrong = [None, True, 0, 1.5, "", "a", "ab", "number", b"ab", [], ["a", "number"], {}, {"a": "number"},
                 {"a", "number"}, (), ("a",), ("number",), ("a", "number", "word"), ("a", "number", None),
                 (("a", "number"),), ("number", "a"), Register("a", (("a", "word"),))]
        wrong += [(name, "number") for name in BAD_NAMES + NOT_TEXTS]
        wrong += [("a", kind) for kind in BAD_NAMES + NOT_TEXTS + (
            "numbers", "numbe", "umber", "Number", "NUMBER", "word ", "wor", "w", "flags", "f", "a", ("number",),
            ["number"], ("number", "word", "flag"), "number word flag", "flag\n")]
        for thing in wrong:
            self.assertEqual(self.index((thing,)), 0, repr(thing))
            self.assertEqual(self.index((("b", "flag"), thing)), 1, repr(thing))
            self.assertEqual(self.index(self.some(7) + (thing,)), 7, repr(thing))

    def test_repeated_names(self):
        for first in KINDS:
            for later in KINDS:
                self.assertEqual(self.index((("a", first), ("a", later))), 1)
                self.assertEqual(self.index((("a", first), ("b", later), ("a", later))), 2)
                self.assertEqual(self.index((("b", first), ("a", first), ("a", later))), 2)
        for at in range(7):
            self.assertEqual(self.index(self.some(7) + (("c" + str(at), "word"),)), 7)

    def test_the_first_wrong_one_is_told(self):
        good, again, wrong = ("a", "number"), ("a", "word"), ("B", "word")
        self.assertEqual(self.index((good, wrong, again)), 1)
        self.assertEqual(self.index((good, again, wrong)), 1)
        self.assertEqual(self.index((wrong, good, again)), 0)
        self.assertEqual(self.index((wrong, wrong)), 0)
        self.assertEqual(self.index((good, again, again)), 1)
        self.assertEqual(self.index((("a", "none"), good)), 0)
        self.assertEqual(self.index((good, ("b", "word"), ("b", "word"), ("a", "word"))), 2)

    def test_index_is_an_integer(self):
        self.assertIs(type(self.index((5,))), int)

    def test_argument_is_left_as_it_was(self):
        columns = [["a", "number"], ["a", "word"]]
        self.index(columns)
        self.index((columns[0],))
        self.assertEqual(columns, [["a", "number"], ["a", "word"]])


class TestMaking(Case):
    def test_an_empty_register(self):
        r = Register("prices", COLUMNS)
        self.same(state(r), ("prices", COLUMNS, 0, 0, [], [], [[]], []))

    def test_arguments_by_name(self):
        self.assertEqual(Register(columns=COLUMNS, name="prices"), Register("prices", COLUMNS))

    def test_bad_name(self):
        for name in BAD_NAMES + NOT_TEXTS:
            self.assertIs(self.refused(BadName, Register, name, COLUMNS).given, name)

    def test_bad_columns(self):
        self.assertIsNone(self.refused(BadColumns, Register, "prices", ()).index)
        self.assertIsNone(self.refused(BadColumns, Register, "prices", [("a", "word")]).index)
        self.assertIsNone(self.refused(BadColumns, Register, "prices", None).index)
        self.assertEqual(self.refused(BadColumns, Register, "prices", (("a", "word"), ("a", "word"))).index, 1)
        self.assertEqual(self.refused(BadColumns, Register, "prices", (("a", "kind"),)).index, 0)

    def test_bad_name_ahead_of_bad_columns(self):
        self.assertEqual(self.refused(BadName, Register, "Prices", ()).given, "Prices")
        self.assertEqual(self.refused(BadName, Register, columns=None, name="").given, "")

    def test_one_and_eight_columns(self):
        for many in (1, 8):
            columns = tuple(("c" + str(at), "flag") for at in range(many))
            r = Register("r", columns)
            self.assertEqual(r.columns(), columns)
            self.assertEqual(r.add((True,) * many, author="bo"), 0)


class TestHistory(Case):
    def test_examples(self):
        self.same((prices().rows(), prices().rows(2)),
                  ([(1, ("desk", (181, 1)))], [(0, ("lamp", (170, 1))), (1, ("desk", None))]))
        self.same((prices().version(), len(prices()), prices().authors(1)), (4, 1, ["bo", "di"]))
        self.assertEqual(self.refused(NoRow, prices().strike, 0, author="bo").number, 0)

    def test_results_of_the_changes(self):
        r = Register("r", COLUMNS)
        self.same([r.add(ROW, author="bo") for time in range(3)], [0, 1, 2])
        self.assertIsNone(r.correct(1, OTHER_ROW, author="bo"))
        self.assertIsNone(r.strike(1, author="bo"))

    def test_what_it_was_made_of(self):
        self.same((prices().name(), prices().columns()), ("prices", (("item", "word"), ("cost", "number"))))

    def test_numbers_are_never_used_again(self):
        r = Register("r", COLUMNS)
        for number in range(5):
            self.same(r.add(ROW, author="bo"), number)
            r.strike(number, author="bo")
        self.same(r.add(ROW, author="bo"), 5)
        r.correct(5, OTHER_ROW, author="bo")
        self.refused(BadRow, r.add, (), author="bo")
        self.refused(BadName, r.add, ROW, author="")
        self.same(r.add(ROW, author="bo"), 6)

    def test_entries(self):
        self.same(prices().entries(), [
            ("add", 0, ("lamp", (170, 1)), "bo"), ("add", 1, ("desk", None), "bo"),
            ("correct", 1, ("desk", (181, 1)), "di"), ("strike", 0, None, "di")])

    def test_authors(self):
        r = prices()
        self.same((r.authors(0), r.authors(number=1)), (["bo", "di"], ["bo", "di"]))
        r.correct(1, ("desk", None), author="bo")
        r.correct(1, ("desk", None), author="bo")
        r.strike(1, author="ed")
        self.same((r.authors(0), r.authors(1)), (["bo", "di"], ["bo", "di", "bo", "bo", "ed"]))

    def test_rows_of_now_and_of_every_earlier_version(self):
        r = Register("r", COLUMNS)
        told = [r.rows()]
        rows = {}
        for at in range(60):
            if at % 3 != 2:
                values = ("w" + str(at), (at, 1), at % 2 == 0)
                rows[r.add(values, author="bo")] = values
            elif at % 2 == 0:
                number = sorted(rows)[at % len(rows)]
                rows[number] = ("again", None, None)
                r.correct(number, rows[number], author="di")
            else:
                number = sorted(rows)[at % len(rows)]
                del rows[number]
                r.strike(number, author="di")
            self.same(r.rows(), sorted(rows.items()))
            self.same(r.rows(r.version()), sorted(rows.items()))
            self.same((r.version(), len(r)), (at + 1, len(rows)))
            told.append(r.rows())
        for version in range(61):
            self.same(r.rows(version), told[version])
            self.same(r.rows(version=version), told[version])
        self.same(r.rows(None), told[60])
        self.same(r.rows(version=None), told[60])
        self.same(r.rows(0), [])

    def test_a_corrected_row_keeps_its_position(self):
        r = Register("r", COLUMNS)
        for time in range(12):
            r.add(ROW, author="bo")
        for number in (11, 0, 5, 10, 2):
            r.correct(number, OTHER_ROW, author="bo")
        self.same([number for number, values in r.rows()], list(range(12)))

    def test_a_correction_to_the_same_values_is_an_entry(self):
        r = prices()
        r.correct(1, ("desk", (181, 1)), author="ed")
        self.same((r.version(), r.rows(), r.authors(1)), (5, r.rows(4), ["bo", "di", "ed"]))

    def test_len_is_the_number_of_rows_now(self):
        r = Register("r", COLUMNS)
        found = [len(r)]
        for time in range(3):
            r.add(ROW, author="bo")
            found.append(len(r))
        r.correct(0, OTHER_ROW, author="bo")
        found.append(len(r))
        for number in (1, 0, 2):
            r.strike(number, author="bo")
            found.append(len(r))
        self.same(found, [0, 1, 2, 3, 3, 2, 1, 0])

    def test_values_of_every_kind_are_kept(self):
        r = Register("r", COLUMNS)
        rows = [("a", (0, 1), True), ("a0123456789b", (-LIMIT, 1), False), (None, None, None), ("z", (1, LIMIT), None)]
        for values in rows:
            r.add(values, author="bo")
        self.same(r.rows(), list(enumerate(rows)))

    def test_arguments_by_name(self):
        r = Register("r", COLUMNS)
        self.same(r.add(author="bo", values=ROW), 0)
        r.correct(author="di", values=OTHER_ROW, number=0)
        r.strike(author="ed", number=0)
        self.same(r.entries(), [("add", 0, ROW, "bo"), ("correct", 0, OTHER_ROW, "di"), ("strike", 0, None, "ed")])

    def test_author_only_by_name(self):
        r = prices()
        before = state(r)
        self.assertRaises(TypeError, r.add, ("mat", None), "bo")
        self.assertRaises(TypeError, r.correct, 1, ("mat", None), "bo")
        self.assertRaises(TypeError, r.strike, 1, "bo")
        self.assertRaises(TypeError, r.add, ("mat", None))
        self.same(state(r), before)

    def test_what_was_told_earlier_stays(self):
        r = prices()
        told = (r.rows(), r.rows(2), r.entries(), r.authors(1), r.version(), len(r))
        before = repr(told)
        r.add(("mat", None), author="ed")
        r.correct(1, ("bed", None), author="ed")
        r.strike(1, author="ed")
        self.assertEqual(repr(told), before)

    def test_what_is_told_belongs_to_the_caller(self):
        r = prices()
        before = state(r)
        for tell in (r.rows, lambda: r.rows(2), lambda: r.rows(0), r.entries, lambda: r.authors(1), lambda: r.authors(0)):
            told = tell()
            self.assertIs(type(told), list)
            self.assertIsNot(told, tell())
            told.append(("more",))
            told.reverse()
            del told[0]
            self.same(state(r), before)
            tell().clear()
            self.same(state(r), before)


class TestTwinAndEquality(Case):
    def test_a_twin_is_equal_and_goes_its_own_way(self):
        r = prices()
        other = r.twin()
        self.assertIs(type(other), Register)
        self.assertIsNot(other, r)
        self.same(state(other), state(r))
        self.assertTrue(r == other)
        before = state(r)
        self.same(other.add(("mat", None), author="ed"), 2)
        other.strike(1, author="ed")
        self.same(state(r), before)
        self.assertFalse(r == other)
        before = state(other)
        self.same(r.add(("bed", None), author="ed"), 2)
        r.correct(1, ("bed", None), author="ed")
        self.same(state(other), before)

    def test_twins_that_go_the_same_way_are_equal(self):
        r = prices()
        other = r.twin()
        for one in (r, other):
            one.add(("mat", None), author="ed")
        self.assertTrue(r == other)

    def test_a_twin_of_an_empty_register(self):
        r = Register("r", COLUMNS)
        self.assertTrue(r.twin() == r)

    def test_equal_registers(self):
        self.assertIs(prices() == prices(), True)
        self.assertIs(prices() != prices(), False)

    def test_unlike_names_columns_or_entries(self):
        def grown(name="r", columns=COLUMNS, changes=()):
            r = Register(name, columns)
            for word, given, author in changes:
                getattr(r, word)(*given, author=author)
            return r

        again = ("correct", (0, ROW), "bo")
        unlike = [
            grown(), grown(name="s"), grown(columns=COLUMNS[:2]), grown(columns=COLUMNS[::-1]),
            grown(columns=(("item", "word"), ("cost", "number"), ("sold", "word"))),
            grown(changes=[("add", (ROW,), "bo")]), grown(changes=[("add", (ROW,), "di")]),
            grown(changes=[("add", (OTHER_ROW,), "bo")]), grown(changes=[("add", (ROW,), "bo"), again]),
            grown(changes=[("add", (ROW,), "bo"), ("strike", (0,), "bo")]),
            grown(changes=[("add", (ROW,), "bo"), ("add", (OTHER_ROW,), "bo")]),
            grown(changes=[("add", (OTHER_ROW,), "bo"), ("add", (ROW,), "bo")]),
            grown(changes=[("add", (OTHER_ROW,), "bo"), again]),
        ]
        for at, one in enumerate(unlike):
            for place, other in enumerate(unlike):
                self.assertIs(one == other, at == place, (at, place))
                self.assertIs(one != other, at != place, (at, place))

    def test_equal_to_nothing_else(self):
        r = prices()
        for other in (None, True, 1, 1.5, "prices", b"", r.rows(), r.entries(), (r.name(), r.columns(), r.entries()),
                      [r], (r,), {}, Register, BadName("prices"), r.name, object()):
            self.assertIs(r == other, False)
            self.assertIs(other == r, False)
            self.assertIs(r != other, True)


class TestRefusals(Case):
    def setUp(self):
        self.r = Register("prices", COLUMNS)
        for time in range(3):
            self.r.add(ROW, author="bo")
        self.r.strike(0, author="di")
        self.before = state(self.r)
        self.kept = self.r.twin()

    def refused(self, error, call, *given, **named):
        """Behind each refused call the register is as it was."""
        found = Case.refused(self, error, call, *given, **named)
        self.same(state(self.r), self.before)
        self.assertTrue(self.r == self.kept)
        return found

    def wrong_rows(self):
        """Each with the index that is told."""
        rows = [(values, None) for values in (None, True, 0, "", "abc", b"abc", list(ROW), {}, {"a", "b", "c"}, (), ROW[:2],
                                              ROW + (None,), (ROW,), (None,) * 2, (None,) * 4, self.kept)]
        for word in BAD_NAMES + NOT_TEXTS + ((1, 2),):
            if word is not None:
                rows.append(((word, (1, 1), True), 0))
        for number in (True, False, 1, 0, 1.0, "a", "1", (2, 4), (1, 0), (True, 1), (1, True), (LIMIT + 1, 1), (-LIMIT - 1, 1),
                       (1, LIMIT + 1), [1, 2], (1,), (1, 2, 3), self.kept):
            rows.append((("lamp", number, True), 1))
        for flag in (1, 0, 1.0, "a", "yes", (1, 1), [], (), {}, self.kept):
            rows.append((("lamp", (1, 1), flag), 2))
        rows.extend([((5, 5, 5), 0), ((None, 5, 5), 1), ((None, None, 5), 2), (("lamp", 5, True), 1), ((5, None, 5), 0)])
        return rows

    def wrong_numbers(self):
        """Of rows now: a struck one, two that were never used, and what is no row number."""
        return (0, 3, 4) + WRONG_NUMBERS

    def test_bad_row(self):
        for values, index in self.wrong_rows():
            self.same(self.refused(BadRow, self.r.add, values, author="bo").index, index)
            self.same(self.refused(BadRow, self.r.correct, 1, values, author="bo").index, index)

    def test_bad_author(self):
        for author in BAD_NAMES + NOT_TEXTS:
            self.assertIs(self.refused(BadName, self.r.add, ROW, author=author).given, author)
            self.assertIs(self.refused(BadName, self.r.correct, 1, ROW, author=author).given, author)
            self.assertIs(self.refused(BadName, self.r.strike, 1, author=author).given, author)

    def test_no_row(self):
        for number in self.wrong_numbers():
            self.assertIs(self.refused(NoRow, self.r.correct, number, ROW, author="bo").number, number)
            self.assertIs(self.refused(NoRow, self.r.strike, number, author="bo").number, number)

    def test_no_row_in_authors(self):
        self.same(self.r.authors(0), ["bo", "di"])
        for number in (3, 4) + WRONG_NUMBERS:
            self.assertIs(self.refused(NoRow, self.r.authors, number).number, number)

    def test_no_row_in_an_empty_register(self):
        self.r = Register("r", COLUMNS)
        self.before = state(self.r)
        self.kept = self.r.twin()
        for number in (0, 1) + WRONG_NUMBERS:
            self.refused(NoRow, self.r.authors, number)
            self.refused(NoRow, self.r.strike, number, author="bo")
            self.refused(NoRow, self.r.correct, number, ROW, author="bo")

    def test_no_version(self):
        for version in (5, 6) + WRONG_NUMBERS:
            if version is not None:
                self.assertIs(self.refused(NoVersion, self.r.rows, version).given, version)
        self.assertEqual(self.refused(NoVersion, self.r.rows, version=5).given, 5)

    def test_order_of_errors(self):
        for number in self.wrong_numbers():
            self.refused(NoRow, self.r.correct, number, None, author="")
            self.refused(NoRow, self.r.correct, number, ROW, author="")
            self.refused(NoRow, self.r.correct, number, None, author="bo")
            self.refused(NoRow, self.r.strike, number, author="")
        self.same(self.refused(BadRow, self.r.correct, 1, (), author="").index, None)
        self.same(self.refused(BadRow, self.r.correct, 1, ("lamp", 5, 5), author="").index, 1)
        self.same(self.refused(BadRow, self.r.add, (), author="").index, None)
        self.same(self.refused(BadRow, self.r.add, ("lamp", None, 5), author="").index, 2)
        self.same(self.refused(BadRow, self.r.add, author=None, values=(5, 5, 5)).index, 0)

    def test_arguments_are_left_as_they_were(self):
        values = ["lamp", [1, 2], True]
        self.refused(BadRow, self.r.add, values, author="bo")
        self.refused(BadRow, self.r.add, ("lamp", values[1], True), author="bo")
        self.refused(NoRow, self.r.strike, values, author="bo")
        self.refused(BadName, self.r.add, ROW, author=values)
        self.same(values, ["lamp", [1, 2], True])

    def test_a_refused_call_is_followed_by_good_ones(self):
        self.refused(BadName, self.r.strike, 1, author="")
        self.same(self.r.add(OTHER_ROW, author="bo"), 3)
        self.r.strike(1, author="bo")
        self.same(self.r.rows(), [(2, ROW), (3, OTHER_ROW)])


class TestFull(Case):
    def grown(self, entries):
        r = Register("r", COLUMNS)
        r.add(ROW, author="bo")
        r.add(ROW, author="bo")
        r.strike(0, author="bo")
        for time in range(entries - 3):
            r.correct(1, OTHER_ROW, author="bo")
        return r

    def test_400_entries_are_taken(self):
        for change in (lambda r: r.add(ROW, author="bo"), lambda r: r.correct(1, ROW, author="bo"),
                       lambda r: r.strike(1, author="bo")):
            r = self.grown(399)
            change(r)
            self.same((r.version(), len(r.entries())), (400, 400))

    def test_one_more_is_refused(self):
        r = self.grown(400)
        before = state(r)
        for given in ((r.add, ROW), (r.correct, 1, ROW), (r.strike, 1)):
            self.same(self.refused(TooLarge, *given, author="bo").size, 401)
            self.same(state(r), before)
        self.same(self.refused(TooLarge, r.twin().add, ROW, author="bo").size, 401)

    def test_all_other_errors_stand_ahead(self):
        r = self.grown(400)
        before = state(r)
        self.refused(NoRow, r.correct, 0, None, author="")
        self.refused(NoRow, r.strike, 0, author="bo")
        self.refused(NoRow, r.strike, 2, author="bo")
        self.refused(BadRow, r.correct, 1, (), author="")
        self.refused(BadRow, r.correct, 1, (), author="bo")
        self.refused(BadRow, r.add, (), author="bo")
        self.refused(BadName, r.add, ROW, author="")
        self.refused(BadName, r.correct, 1, ROW, author="")
        self.refused(BadName, r.strike, 1, author="")
        self.same(state(r), before)

    def test_400_added_rows(self):
        r = Register("r", COLUMNS)
        self.same([r.add(ROW, author="bo") for time in range(400)], list(range(400)))
        self.same(self.refused(TooLarge, r.add, ROW, author="bo").size, 401)
        self.same((len(r), r.version(), r.rows(399)), (400, 400, r.rows()[:399]))
        self.same(r.authors(399), ["bo"])
        self.refused(NoRow, r.authors, 400)
        self.refused(NoVersion, r.rows, 401)


if __name__ == "__main__":
    unittest.main()
