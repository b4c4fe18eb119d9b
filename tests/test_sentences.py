"""Promise [22]: the words of claims."""

import unittest

import editions
from common import LIMIT, Case, col, number
from liveclaims.sentences import claim_words
from test_writing import FORMS

M = ("mean", "dear", "cost")
N = ("count", "all2", "item")
RATIONALS = (((0, 1), "0"), ((3, 1), "3"), ((-3, 1), "-3"), ((1, 2), "1/2"), ((-7, 3), "-7/3"), ((LIMIT * 10, 1), "1" + "0" * 41),
             ((1, LIMIT * 10), "1/1" + "0" * 41))


class TestClaimWords(Case):
    def test_example(self):
        self.same(claim_words(("most", M, (1, 2))), "mean of cost in dear is at most 1/2")

    def test_bounds(self):
        for q, text in RATIONALS:
            self.same(claim_words(("least", M, q)), "mean of cost in dear is at least " + text)
            self.same(claim_words(("most", N, q)), "count of item in all2 is at most " + text)
            self.same(claim_words(("more", M, N, q)),
                      "mean of cost in dear is greater than count of item in all2 by more than " + text)
        self.same(claim_words(claim=("least", M, (1, 1))), "mean of cost in dear is at least 1")

    def test_each_function(self):
        for function in ("count", "sum", "mean", "median", "least", "greatest", "only"):
            self.same(claim_words(("least", (function, "c", "a"), (1, 1))), function + " of a in c is at least 1")
            self.same(claim_words(("most", (function, "c", "a"), (1, 1))), function + " of a in c is at most 1")
            self.same(claim_words(("more", (function, "c", "a"), (function, "d", "b"), (1, 1))),
                      function + " of a in c is greater than " + function + " of b in d by more than 1")

    def test_share(self):
        self.same(claim_words(("share", "dear", ("less", number(180), col("cost")), (1, 2))),
                  "more than 1/2 of dear have (less =180 cost)")
        self.same(claim_words(("share", "c", col("sold"), (0, 1))), "more than 0 of c have sold")
        for expression, form in FORMS:
            self.same(claim_words(("share", "c", expression, (2, 3))), "more than 2/3 of c have " + form)

    def test_rises_and_top(self):
        self.same(claim_words(("rises", "dear", "cost")), "cost rises in dear")
        self.same(claim_words(("top", "dear", "item", "lamp", "cost")), "lamp has the greatest cost in dear")

    def test_a_second_way(self):
        for claim in (("least", M, (1, 3)), ("most", N, (-1, 1)), ("more", N, M, (1, 1)), ("rises", "c", "a"),
                      ("share", "c", ("both", col("a"), ("value", True)), (1, 9)), ("top", "c", "a", "b", "d")):
            self.same(claim_words(claim), editions.words_of(claim))


if __name__ == "__main__":
    unittest.main()
