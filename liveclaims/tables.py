"""Tables: rows of values, each with the rows of registers from which it was made."""

from liveclaims.errors import UnknownName


def union_of(lineages):
    """All that stands in some of the lineages, as a lineage."""
    return tuple(sorted({place for lineage in lineages for place in lineage}))


def names_of(columns):
    return [name for name, kind in columns]


class Table:
    """Columns, and rows of values with their lineages. It never changes."""

    def __init__(self, columns, rows):
        self.shape = columns
        self.body = tuple(rows)

    def columns(self):
        return self.shape

    def rows(self):
        return list(self.body)

    def column(self, name):
        names = names_of(self.shape)
        if name not in names:
            raise UnknownName(name)
        at = names.index(name)
        return [values[at] for values, lineage in self.body]

    def lineage(self):
        return union_of([lineage for values, lineage in self.body])

    def __eq__(self, other):
        return isinstance(other, Table) and self.shape == other.shape and self.body == other.body

    def __len__(self):
        return len(self.body)

    def __repr__(self):
        return f"Table({len(self.shape)} columns, {len(self.body)} rows)"


def register_table(origin, version=None):
    called = origin.name()
    rows = [(values, ((called, number),)) for number, values in origin.rows(version)]
    return Table(origin.columns(), rows)
