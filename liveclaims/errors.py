"""The errors of the package. What an error is made of can be read off it by the same name."""


class BadNumber(ValueError):
    """Not a number of the kind that is asked for."""

    def __init__(self, given):
        self.given = given


class BadName(ValueError):
    """Not a name, or not one that may stand here."""

    def __init__(self, given):
        self.given = given


class BadColumns(ValueError):
    """Not columns: index tells the first wrong one, None the whole."""

    def __init__(self, index):
        self.index = index


class BadRow(ValueError):
    """Not values for the columns: index tells the first wrong one, None the whole."""

    def __init__(self, index):
        self.index = index


class BadExpression(ValueError):
    """Not an expression: path leads to the first invalid part."""

    def __init__(self, path):
        self.path = path


class BadStep(ValueError):
    """Not a pipeline: index tells the first invalid step, None the whole."""

    def __init__(self, index):
        self.index = index


class BadRegisters(ValueError):
    """Not a list of registers: index tells the first wrong one, None the whole."""

    def __init__(self, index):
        self.index = index


class BadLabel(ValueError):
    """A label has another number of alternatives elsewhere."""

    def __init__(self, label):
        self.label = label


class BadClaim(ValueError):
    """Not a claim, or not a measure, about the notebook's cells."""


class BadSentence(ValueError):
    """Not a sentence: part tells the first invalid part, None the whole."""

    def __init__(self, part):
        self.part = part


class NotRowwise(ValueError):
    """The cell is not rowwise, so that no firmness is defined."""

    def __init__(self, cell):
        self.cell = cell


class BadEdition(ValueError):
    """The judge does not accept an edition: place is what it answered."""

    def __init__(self, place):
        self.place = place


class BadText(ValueError):
    """A text cannot be read: position is where it goes wrong."""

    def __init__(self, position):
        self.position = position


class BadLine(ValueError):
    """The desk does not know such a line."""


class UnknownName(KeyError):
    """There is nothing of that name."""

    def __init__(self, key):
        self.key = key


class NoRow(IndexError):
    """There is no such row."""

    def __init__(self, number):
        self.number = number


class NoVersion(IndexError):
    """There is no such version."""

    def __init__(self, given):
        self.given = given


class NoLine(IndexError):
    """There is no such sentence or hole."""

    def __init__(self, number):
        self.number = number


class NoEdition(IndexError):
    """There is no such edition."""

    def __init__(self, number):
        self.number = number


class DivisionByZero(ZeroDivisionError):
    """The divisor is zero."""


class TooLarge(OverflowError):
    """A bound would be passed: size is what would be reached."""

    def __init__(self, size):
        self.size = size


class Cycle(LookupError):
    """A cell would read itself."""

    def __init__(self, key):
        self.key = key


class Breaks(LookupError):
    """Another cell would no longer be valid."""

    def __init__(self, key):
        self.key = key


class InUse(LookupError):
    """Other cells read this one."""

    def __init__(self, users):
        self.users = users


class BadChoice(RuntimeError):
    """A label has no alternative of that index."""

    def __init__(self, label):
        self.label = label


class Missing(RuntimeError):
    """The value of a hole is missing."""

    def __init__(self, line, part):
        self.line = line
        self.part = part


class OutOfScale(RuntimeError):
    """The value of a bar is below its low or above its high end."""

    def __init__(self, line, part):
        self.line = line
        self.part = part


class FalseClaim(RuntimeError):
    """A claim is not true."""

    def __init__(self, line, part):
        self.line = line
        self.part = part


class Exists(RuntimeError):
    """An edition of that paper and number is kept already."""

    def __init__(self, paper, number):
        self.paper = paper
        self.number = number


class Already(RuntimeError):
    """An edition is retracted already, or is not retracted at all."""
