"""Names, kinds, values and columns, and registers: rows with every earlier version of them."""

from liveclaims.errors import BadColumns, BadName, BadRow, NoRow, NoVersion, TooLarge
from liveclaims.exact import is_rational, is_whole

LETTERS = "abcdefghijklmnopqrstuvwxyz"
NAME_SIGNS = "abcdefghijklmnopqrstuvwxyz0123456789"
LONGEST_NAME = 12
KINDS = ("number", "word", "flag")
LIMIT = 10 ** 40
MOST_COLUMNS = 8
MOST_ENTRIES = 400


def is_name(value):
    if not isinstance(value, str) or value == "" or len(value) > LONGEST_NAME:
        return False
    return value[0] in LETTERS and all([sign in NAME_SIGNS for sign in value])


def within_limit(number):
    return abs(number[0]) <= LIMIT and number[1] <= LIMIT


def is_value(value, kind):
    if value is None:
        return True
    if kind == "number":
        return is_rational(value) and within_limit(value)
    if kind == "word":
        return is_name(value)
    # Neither 1 nor 0 is a flag, although both are equal to one.
    return value is True or value is False


def is_column(value):
    if not isinstance(value, tuple) or len(value) != 2:
        return False
    name, kind = value
    return is_name(name) and isinstance(kind, str) and kind in KINDS


def check_columns(columns):
    if not isinstance(columns, tuple) or len(columns) == 0 or len(columns) > MOST_COLUMNS:
        raise BadColumns(None)
    names = []
    for index, column in enumerate(columns):
        if not is_column(column) or column[0] in names:
            raise BadColumns(index)
        names.append(column[0])


def check_name(value):
    if not is_name(value):
        raise BadName(value)


def check_row(columns, values):
    if not isinstance(values, tuple) or len(values) != len(columns):
        raise BadRow(None)
    for index, (name, kind) in enumerate(columns):
        if not is_value(values[index], kind):
            raise BadRow(index)


def rows_after(entries):
    """The rows that these entries leave, as a dict from numbers to values."""
    # Numbers are given in ascending order and a corrected row keeps its place in the dict,
    # so the dict is in ascending order.
    rows = {}
    for word, number, values, author in entries:
        if word == "strike":
            del rows[number]
        else:
            rows[number] = values
    return rows


def numbers_used(entries):
    """How many row numbers have been given, those of struck rows included."""
    return len([entry for entry in entries if entry[0] == "add"])


class Register:
    """Raw rows. Only the entries are kept: the rows of each version follow from them."""

    def __init__(self, name, columns):
        check_name(name)
        check_columns(columns)
        self.called = name
        self.shape = columns
        self.log = []

    def check_standing(self, number):
        # is_whole comes first: True and 1.0 would be found where 1 is, and a list cannot be looked up.
        if not is_whole(number) or number not in rows_after(self.log):
            raise NoRow(number)

    def check_entry(self, author):
        check_name(author)
        if len(self.log) >= MOST_ENTRIES:
            raise TooLarge(MOST_ENTRIES + 1)

    def add(self, values, *, author):
        check_row(self.shape, values)
        self.check_entry(author)
        number = numbers_used(self.log)
        self.log.append(("add", number, values, author))
        return number

    def correct(self, number, values, *, author):
        self.check_standing(number)
        check_row(self.shape, values)
        self.check_entry(author)
        self.log.append(("correct", number, values, author))

    def strike(self, number, *, author):
        self.check_standing(number)
        self.check_entry(author)
        self.log.append(("strike", number, None, author))

    def name(self):
        return self.called

    def columns(self):
        return self.shape

    def version(self):
        return len(self.log)

    def rows(self, version=None):
        if version is None:
            version = len(self.log)
        if not is_whole(version) or version < 0 or version > len(self.log):
            raise NoVersion(version)
        rows = rows_after(self.log[:version])
        return list(rows.items())

    def entries(self):
        return list(self.log)

    def authors(self, number):
        if not is_whole(number) or number < 0 or number >= numbers_used(self.log):
            raise NoRow(number)
        return [entry[3] for entry in self.log if entry[1] == number]

    def twin(self):
        copied = Register(self.called, self.shape)
        copied.log = list(self.log)
        return copied

    def __eq__(self, other):
        return (isinstance(other, Register) and self.called == other.called
                and self.shape == other.shape and self.log == other.log)

    def __len__(self):
        return len(self.rows())
