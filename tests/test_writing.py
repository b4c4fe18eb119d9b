"""Promises [32] and [33]: how expressions and pipelines are written."""

import unittest

from common import LIMIT, Case, col, number
from liveclaims.expressions import kind_of
from liveclaims.writing import show_expression, show_pipeline

COLUMNS = (("a", "number"), ("b", "word"), ("c", "flag"))
# Each form of an expression with its text.
FORMS = (
    (col("a"), "a"),
    (("column", "abcdefghijk9"), "abcdefghijk9"),
    (("value", "b"), "='b"),
    (("value", "x12"), "='x12"),
    (number(0), "=0"),
    (number(7), "=7"),
    (number(-3), "=-3"),
    (number(1, 2), "=1/2"),
    (number(-10, 7), "=-10/7"),
    (number(LIMIT), "=1" + "0" * 40),
    (number(-LIMIT, LIMIT - 1), "=-1" + "0" * 40 + "/" + "9" * 40),
    (("value", True), "=#yes"),
    (("value", False), "=#no"),
    (("plus", col("a"), number(1)), "(plus a =1)"),
    (("minus", col("a"), number(1)), "(minus a =1)"),
    (("times", col("a"), number(1)), "(times a =1)"),
    (("over", col("a"), number(1)), "(over a =1)"),
    (("less", col("a"), number(1)), "(less a =1)"),
    (("same", col("b"), ("value", "b")), "(same b ='b)"),
    (("both", col("c"), ("value", True)), "(both c =#yes)"),
    (("either", col("c"), ("value", False)), "(either c =#no)"),
    (("not", col("c")), "(not c)"),
    (("missing", col("a")), "(missing a)"),
    (("if", col("c"), col("a"), number(-1, 3)), "(if c a =-1/3)"),
    (("not", ("not", ("not", ("not", ("not", ("not", ("not", col("c")))))))), "(not (not (not (not (not (not (not c)))))))"),
    (("if", ("not", col("c")), ("plus", col("a"), col("a")), ("minus", number(1), number(2))),
     "(if (not c) (plus a a) (minus =1 =2))"),
)
# Each step with its lines.
LINES = (
    (("keep", ("less", col("a"), number(1, 2))), ["keep (less a =1/2)"]),
    (("keep", col("c")), ["keep c"]),
    (("set", "d", ("not", col("c"))), ["set d (not c)"]),
    (("set", "a", ("value", "up")), ["set a ='up"]),
    (("select", ("c",)), ["select c"]),
    (("select", ("c", "a", "b")), ["select c a b"]),
    (("rename", "a", "z"), ["rename a z"]),
    (("sort", "a", "up"), ["sort a up"]),
    (("sort", "b", "down"), ["sort b down"]),
    (("first", 0), ["first 0"]),
    (("first", 1000), ["first 1000"]),
    (("sample", 0, 1, 10 ** 9), ["sample 0 1 1000000000"]),
    (("sample", 12, 1000, 0), ["sample 12 1000 0"]),
    (("join", "s", ("a",)), ["join s on a"]),
    (("join", "s", ("c", "a", "b")), ["join s on c a b"]),
    (("union", "t"), ["union t"]),
    (("group", (), (("n", "count", "a"),)), ["group", "  total n count a"]),
    (("group", ("b", "c"), (("n", "count", "a"), ("s", "sum", "a"), ("m", "mean", "a"))),
     ["group b c", "  total n count a", "  total s sum a", "  total m mean a"]),
    (("group", ("a",), (("n", "median", "a"), ("s", "least", "a"), ("m", "greatest", "a"))),
     ["group a", "  total n median a", "  total s least a", "  total m greatest a"]),
    (("distinct",), ["distinct"]),
    (("choose", "x", ((), ())), ["choose x", "  or", "  or"]),
    (("choose", "x", ((("first", 1), ("distinct",)), (), (("keep", col("c")),))),
     ["choose x", "  or", "    first 1", "    distinct", "  or", "  or", "    keep c"]),
    (("choose", "y", ((("group", (), (("n", "count", "a"), ("m", "sum", "a"))), ("sort", "n", "up")),
                      (("group", ("a", "b"), (("k", "mean", "a"),)), ("select", ("a", "k"))))),
     ["choose y", "  or", "    group", "      total n count a", "      total m sum a", "    sort n up",
      "  or", "    group a b", "      total k mean a", "    select a k"]),
)


class TestExpressions(Case):
    def test_example(self):
        self.same(show_expression(("less", ("plus", col("a"), number(1, 2)), number(-3))), "(less (plus a =1/2) =-3)")

    def test_forms(self):
        for expression, text in FORMS:
            self.same(show_expression(expression), text)
        self.same(show_expression(expression=col("a")), "a")

    def test_words_that_stand_for_others(self):
        for name in ("less", "not", "column", "value", "yes"):
            self.same(show_expression(("column", name)), name)
            self.same(show_expression(("value", name)), "='" + name)

    def test_these_are_valid(self):
        for expression, text in FORMS[2:]:
            self.assertIn(kind_of(COLUMNS, expression), ("number", "word", "flag"))


class TestPipelines(Case):
    def test_no_step(self):
        self.same(show_pipeline(("r", ())), "from r")
        self.same(show_pipeline(pipeline=("abc9", ())), "from abc9")

    def test_each_step(self):
        for step, lines in LINES:
            self.same(show_pipeline(("r", (step,))), "\n".join(["from r"] + lines))

    def test_all_steps(self):
        steps = tuple([step for step, lines in LINES])
        text = "\n".join(["from r"] + [line for step, lines in LINES for line in lines])
        self.same(show_pipeline(("r", steps)), text)

    def test_no_line_feed_at_the_end(self):
        for step, lines in LINES:
            self.assertFalse(show_pipeline(("r", (step, step))).endswith("\n"))

    def test_resolved_pipelines(self):
        self.same(show_pipeline(("r", (("distinct",),) * 40)), "from r" + "\ndistinct" * 40)


if __name__ == "__main__":
    unittest.main()
