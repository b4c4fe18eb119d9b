"""Promise [5] (a): a pipeline that check accepts runs, and its result has the checked columns."""

import itertools
import random
import unittest

import reference
from common import Case
from liveclaims.errors import BadExpression, BadStep, TooLarge, UnknownName
from liveclaims.expressions import evaluate, kind_of
from liveclaims.registers import check_columns, is_value
from liveclaims.running import run
from liveclaims.steps import check, labels_of, resolved
from liveclaims.tables import Table


def some_table(chance, columns, name, most):
    rows = [(reference.some_row(chance, columns), ((name, at),)) for at in range(chance.randint(0, most))]
    return Table(columns, tuple(rows))


def some_tables(chance, most=12):
    shapes = {name: reference.some_columns(chance) for name in ("p", "q", "s")}
    if chance.random() < 0.5:
        shapes["q"] = shapes["p"]
    return {name: some_table(chance, shapes[name], name, most) for name in shapes}


def settings_of(pipeline):
    labels = labels_of(pipeline)
    for indexes in itertools.product(*[range(count) for label, count in labels]):
        yield {label: index for (label, count), index in zip(labels, indexes)}


class TestRuns(Case):
    def check_table(self, found, columns):
        self.same(found.columns(), columns)
        check_columns(columns)
        for values, lineage in found.rows():
            self.assertEqual(len(values), len(columns))
            for value, (name, kind) in zip(values, columns):
                self.assertTrue(is_value(value, kind), (value, kind))
            self.same(lineage, tuple(sorted(set(lineage))))

    def ran_or_large(self, tables, pipeline, setting):
        try:
            return run(tables, pipeline, setting=setting).rows()
        except TooLarge as error:
            return ("large", error.size)

    def expected(self, tables, pipeline, setting):
        try:
            return reference.ran(tables, pipeline, setting)
        except reference.Large as error:
            return ("large", error.args[0])

    def compare(self, chance, tables, most=6):
        shapes = {name: tables[name].columns() for name in tables}
        pipeline = reference.some_pipeline(chance, shapes, check, (BadStep, UnknownName), most=most)
        columns = check(shapes, pipeline)
        for setting in settings_of(pipeline):
            found = self.ran_or_large(tables, pipeline, setting)
            self.same(found, self.expected(tables, pipeline, setting))
            plain = resolved(pipeline, setting)
            self.same(check(shapes, plain, long=True), columns)
            self.same(self.ran_or_large(tables, plain, None), found)
            if isinstance(found, list):
                self.check_table(run(tables, pipeline, setting=setting), columns)

    def test_pipelines_by_chance(self):
        chance = random.Random(11)
        for turn in range(500):
            self.compare(chance, some_tables(chance))

    def test_tables_without_rows(self):
        chance = random.Random(12)
        for turn in range(100):
            self.compare(chance, some_tables(chance, most=0))

    def test_long_pipelines_over_larger_tables(self):
        chance = random.Random(13)
        for turn in range(30):
            self.compare(chance, some_tables(chance, most=60), most=10)


class TestExpressions(Case):
    def test_expressions_by_chance(self):
        chance = random.Random(14)
        for turn in range(600):
            columns = reference.some_columns(chance)
            kind = chance.choice(reference.KINDS)
            expression = reference.some_expression(chance, columns, kind, depth=chance.randint(1, 8))
            self.same(kind_of(columns, expression), kind)
            row = reference.some_row(chance, columns)
            found = evaluate(columns, row, expression)
            self.assertTrue(is_value(found, kind))
            self.same(found, reference.worth({name: value for (name, held), value in zip(columns, row)}, expression))

    def test_what_kind_of_refuses_is_refused_in_keep(self):
        chance = random.Random(15)
        columns = (("n", "number"), ("w", "word"), ("f", "flag"))
        for turn in range(300):
            expression = reference.some_expression(chance, reference.some_columns(chance), "flag")
            try:
                valid = kind_of(columns, expression) == "flag"
            except BadExpression:
                valid = False
            if valid:
                check({"r": columns}, ("r", (("keep", expression),)))
            else:
                self.refused(BadStep, check, {"r": columns}, ("r", (("keep", expression),)))


if __name__ == "__main__":
    unittest.main()
