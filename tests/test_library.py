"""Promises [28], [29] and [5] (f): the library."""

import itertools
import random
import unittest

from common import ODD_THINGS, Case, col, goods, number, prices
from editions import edition_of
from liveclaims.errors import Already, BadEdition, BadRegisters, Exists, NoEdition, UnknownName
from liveclaims.judging import judge
from liveclaims.library import Library, is_fallen, is_support
from liveclaims.registers import Register
from test_judging import DEAR, REPORT, put

CLAIM = ("least", ("count", "all", "item"), (0, 1))


def cited(*groups):
    """A part of one claim that is always true, with these groups."""
    return ("claim", CLAIM, tuple(tuple(group) for group in groups))


def paper_of(r, name, sentences, number=1, cells=(("all", ("r", ())),)):
    return edition_of([r], cells, tuple(sentences), paper=name, number=number)


def one(name, part=0, line=0, edition=1):
    return (name, edition, line, part)


def state(shelf):
    return (shelf.editions(), shelf.retracted(), shelf.claims(), shelf.standing(), shelf.fallen(), shelf.support(), len(shelf))


# The definitions, word by word.

def stand(groups, retracted):
    found = []
    while True:
        more = [claim for claim in sorted(groups) if claim not in found and claim[:2] not in retracted
                and all(any(other in found for other in group) for group in groups[claim])]
        if not more:
            return sorted(found)
        found.append(more[0])


def ordered(groups, retracted):
    found = []
    while True:
        more = [claim for claim in groups if claim not in found and claim[:2] not in retracted
                and all(any(other in found for other in group) for group in groups[claim])]
        if not more:
            return found
        found.append(min(more))


class Shelf(Case):
    def setUp(self):
        self.r = goods("r", 3)
        self.shelf = Library([self.r])

    def add(self, name, *parts, edition=1):
        """Adds an edition of one line for each part."""
        self.shelf.add(paper_of(self.r, name, [(part,) for part in parts], edition))

    def told(self, standing, fallen):
        self.same(self.shelf.standing(), standing)
        self.same(self.shelf.fallen(), fallen)


class TestExample(Case):
    def test_document(self):
        r = prices()
        shelf = Library([r])
        shelf.add(REPORT)
        part = ("claim", ("least", ("count", "dear", "cost"), (0, 1)), ((("report", 1, 1, 0),),))
        shelf.add(edition_of([r], (DEAR,), ((part,),), paper="later"))
        self.same((shelf.support(), shelf.ripple("report", 1)),
                  ([("report", 1, 1, 0), ("later", 1, 0, 0)], [("later", 1, 0, 0)]))


class TestMade(Case):
    def test_bad_registers(self):
        r = goods("r")
        for thing in ODD_THINGS + ([], (r,), [goods("r" + str(at)) for at in range(7)], r):
            if thing != ["a"] and thing != [[[]]]:
                self.same(self.refused(BadRegisters, Library, thing).index, None)
        for thing in ODD_THINGS:
            if not isinstance(thing, Register):
                self.same(self.refused(BadRegisters, Library, [r, thing]).index, 1)
        self.same(self.refused(BadRegisters, Library, [r, goods("s"), goods("r"), None]).index, 2)
        self.same(self.refused(BadRegisters, Library, ["a"]).index, 0)
        self.assertEqual(len(Library([goods("r" + str(at)) for at in range(6)])), 0)
        self.assertEqual(len(Library(registers=[r])), 0)

    def test_empty(self):
        shelf = Library([goods("r")])
        self.same(state(shelf), ([], [], [], [], [], [], 0))
        self.same(shelf.reach("r", 0), ([], []))

    def test_the_list_is_copied_and_the_registers_are_kept(self):
        r = goods("r", 1)
        registers = [r]
        shelf = Library(registers)
        registers.append(goods("s"))
        registers[0] = goods("t")
        # Entries that come later are seen.
        r.add(("b", (1, 1), True), author="bo")
        edition = paper_of(r, "a", [(cited(),)])
        shelf.add(edition)
        self.same(shelf.editions(), [("a", 1)])
        self.same(edition[2], (("r", 2),))


class TestAdd(Shelf):
    def test_bad_editions(self):
        edition = paper_of(self.r, "a", [(cited(),)])
        for thing in ODD_THINGS + (list(edition), edition[:6]):
            self.same(self.refused(BadEdition, self.shelf.add, thing).place, ("form",))
        for path, value in (((1,), True), ((2, 0, 1), 9), ((3, 0, 1), None), ((4, 0), ()), ((4, 0, 0), None), ((5, 0), "a"), ((6,), ()),
                            ((6,), edition[6] + ((0, 0, True, ()),)), ((6, 0, 2), 1)):
            wrong = put(edition, path, value)
            place = judge([self.r], wrong)
            self.assertIsNotNone(place)
            self.same(self.refused(BadEdition, self.shelf.add, wrong).place, place)
        self.same(state(self.shelf), ([], [], [], [], [], [], 0))

    def test_exists(self):
        edition = paper_of(self.r, "a", [(cited(),)])
        self.assertIsNone(self.shelf.add(edition))
        found = self.refused(Exists, self.shelf.add, edition)
        self.same((found.paper, found.number), ("a", 1))
        other = paper_of(self.r, "a", [(("text", "other"),)])
        self.refused(Exists, self.shelf.add, other)
        self.same(self.shelf.edition("a", 1), edition)
        # The judge comes first.
        self.same(self.refused(BadEdition, self.shelf.add, put(edition, (5, 0), "a")).place, ("line", 0, None))
        self.shelf.add(put(edition, (1,), 2))
        self.shelf.add(put(edition, (0,), "b"))
        self.same(self.shelf.editions(), [("a", 1), ("a", 2), ("b", 1)])
        # A retracted one is kept as well.
        self.shelf.retract("a", 1)
        self.refused(Exists, self.shelf.add, edition)

    def test_by_name(self):
        self.shelf.add(edition=paper_of(self.r, "a", [(cited(),)]))
        self.same(self.shelf.edition(paper="a", number=1)[0], "a")
        self.shelf.retract(paper="a", number=1)
        self.shelf.restore(paper="a", number=1)
        self.same(self.shelf.groups(claim_id=("a", 1, 0, 0)), ())
        self.same(self.shelf.ripple(paper="a", number=1), [])
        self.same(self.shelf.reach(origin="r", number=0), ([("a", 1, 0, 0)], [("a", 1, 0, 0)]))
        self.same(is_support(library=self.shelf, order=[]), True)
        self.same(is_fallen(library=self.shelf, ids=[]), True)

    def test_two_libraries_over_the_same_registers(self):
        other = Library([self.r])
        self.add("a", cited())
        other.add(paper_of(self.r, "b", [(cited(),)]))
        self.shelf.retract("a", 1)
        self.same((self.shelf.editions(), other.editions()), ([("a", 1)], [("b", 1)]))
        self.same((self.shelf.retracted(), other.retracted()), ([("a", 1)], []))


class TestKept(Shelf):
    def test_order(self):
        for name, edition in (("b", 10), ("b", 9), ("aa", 2), ("a", 1), ("b2", 1), ("b", 1)):
            self.add(name, cited(), edition=edition)
        ascending = [("a", 1), ("aa", 2), ("b", 1), ("b", 9), ("b", 10), ("b2", 1)]
        self.same(self.shelf.editions(), ascending)
        self.same(self.shelf.claims(), [key + (0, 0) for key in ascending])
        for key in (("b", 10), ("a", 1), ("b", 9)):
            self.shelf.retract(*key)
        self.same(self.shelf.retracted(), [("a", 1), ("b", 9), ("b", 10)])
        self.same(self.shelf.editions(), ascending)
        self.same(len(self.shelf), 6)

    def test_claims(self):
        sentences = [(cited(), ("text", "a"), cited([one("b")])), (("text", "a"),), (("number", ("count", "all", "item"), 0),)]
        sentences += [(("text", "a"), cited([one("c")], [one("d"), one("e")]))] * 9
        self.shelf.add(paper_of(self.r, "a", sentences))
        ids = [("a", 1, 0, 0), ("a", 1, 0, 2)] + [("a", 1, line, 1) for line in range(3, 12)]
        self.same(self.shelf.claims(), ids)
        self.same(self.shelf.groups(("a", 1, 0, 0)), ())
        self.same(self.shelf.groups(("a", 1, 0, 2)), ((one("b"),),))
        self.same(self.shelf.groups(("a", 1, 11, 1)), ((one("c"),), (one("d"), one("e"))))

    def test_unknown_claims(self):
        self.add("a", cited(), cited())
        wrong = (("a", 1, 0, 1), ("a", 1, 2, 0), ("a", 2, 0, 0), ("b", 1, 0, 0), ("a", 1, 0), ("a", 1, 0, 0, 0), ["a", 1, 0, 0],
                 ("a", True, 0, 0), ("a", 1, False, 0), ("a", 1, 0, False), ("a", 1, True, 0), ("a", 1.0, 0, 0), ("a", 1, 0, [0]),
                 (["a"], 1, 0, 0), ("a", 1, -1, 0), "a")
        for thing in ODD_THINGS + wrong:
            self.assertIs(self.refused(UnknownName, self.shelf.groups, thing).key, thing)

    def test_unknown_editions(self):
        self.add("a", cited(), edition=2)
        self.add("b", cited(), edition=1)
        for call in (self.shelf.retract, self.shelf.restore, self.shelf.edition, self.shelf.ripple):
            for thing in ODD_THINGS:
                if thing != "a":
                    # The leftmost one first.
                    self.assertIs(self.refused(UnknownName, call, thing, thing).key, thing)
                    self.assertIs(self.refused(UnknownName, call, thing, 1).key, thing)
                if thing is True or thing != 1:
                    self.assertIs(self.refused(NoEdition, call, "b", thing).number, thing)
                self.assertIs(self.refused(NoEdition, call, "a", thing).number, thing)
            for thing in (1, 3, 2.0, "2", -2, (2,)):
                self.refused(NoEdition, call, "a", thing)
            self.refused(NoEdition, call, "b", True)
            self.refused(NoEdition, call, "b", 1.0)
        self.same(self.shelf.retracted(), [])

    def test_already(self):
        self.add("a", cited())
        self.refused(Already, self.shelf.restore, "a", 1)
        self.assertIsNone(self.shelf.retract("a", 1))
        self.refused(Already, self.shelf.retract, "a", 1)
        self.same(self.shelf.retracted(), [("a", 1)])
        self.assertIsNone(self.shelf.restore("a", 1))
        self.refused(Already, self.shelf.restore, "a", 1)
        self.same(self.shelf.retracted(), [])

    def test_told_things_belong_to_the_caller(self):
        self.add("a", cited())
        self.add("b", cited([one("a")]))
        self.shelf.retract("b", 1)
        before = state(self.shelf)
        for call in (self.shelf.editions, self.shelf.retracted, self.shelf.claims, self.shelf.standing, self.shelf.fallen,
                     self.shelf.support):
            call().clear()
            call().append("x")
        holes, ids = self.shelf.reach("r", 0)
        holes.clear()
        ids.clear()
        self.shelf.ripple("a", 1).append("x")
        self.same(state(self.shelf), before)
        self.assertEqual(len(self.shelf.reach("r", 0)[0]), 2)


class TestStanding(Shelf):
    def test_without_groups(self):
        self.add("a", cited(), cited())
        self.told([one("a"), one("a", line=1)], [])
        self.shelf.retract("a", 1)
        self.told([], [one("a"), one("a", line=1)])
        self.shelf.restore("a", 1)
        self.told([one("a"), one("a", line=1)], [])

    def test_each_group_and_one_of_each(self):
        self.add("a", cited())
        self.add("b", cited())
        self.add("c", cited([one("a"), one("b")]), cited([one("a")], [one("b")]), cited([one("x"), one("b")], [one("a")] * 4))
        both = [one("c", line=at) for at in range(3)]
        self.told([one("a"), one("b")] + both, [])
        self.shelf.retract("a", 1)
        self.told([one("b"), both[0]], [one("a")] + both[1:])
        self.shelf.retract("b", 1)
        self.told([], [one("a"), one("b")] + both)

    def test_what_is_not_kept(self):
        self.add("a", cited([one("b")]), cited([one("a", line=7)]), cited([one("a", edition=2)]), cited([one("a", part=1)]))
        self.told([], [one("a", line=at) for at in range(4)])
        # What is added later.
        self.add("b", cited())
        self.told([one("a"), one("b")], [one("a", line=at) for at in range(1, 4)])
        self.add("a", cited(), edition=2)
        self.told([one("a"), one("a", line=2), one("a", edition=2), one("b")], [one("a", line=1), one("a", line=3)])

    def test_what_is_no_claim(self):
        self.shelf.add(paper_of(self.r, "a", [(("number", ("count", "all", "item"), 0), ("text", "a"), cited())]))
        self.add("b", cited([one("a", part=0)]), cited([one("a", part=1)]), cited([one("a", part=2)]))
        self.told([one("a", part=2), one("b", line=2)], [one("b"), one("b", line=1)])

    def test_itself_and_rings(self):
        self.add("a", cited([one("a")]), cited([one("a", line=2)]), cited([one("a", line=3)]), cited([one("a", line=1)]))
        self.told([], [one("a", line=at) for at in range(4)])
        # A ring that has another support stands.
        self.add("b", cited([one("c")]))
        self.add("c", cited([one("b"), one("d")]))
        self.assertNotIn(one("b"), self.shelf.standing())
        self.add("d", cited())
        self.same(self.shelf.standing(), [one("b"), one("c"), one("d")])
        self.shelf.retract("d", 1)
        self.same(self.shelf.standing(), [])
        self.shelf.restore("d", 1)
        self.shelf.retract("c", 1)
        self.same(self.shelf.standing(), [one("d")])

    def test_within_one_edition(self):
        self.shelf.add(paper_of(self.r, "a", [(cited([one("a", line=1)]), cited([one("a")])), (cited(),)]))
        self.told([one("a"), one("a", part=1), one("a", line=1)], [])
        self.same(self.shelf.support(), [one("a", line=1), one("a"), one("a", part=1)])


class TestSupport(Shelf):
    def test_the_least_that_may_come_next(self):
        self.add("a", cited([one("c")]), cited())
        self.add("b", cited([one("a")]), cited([one("d")], [one("a", line=1)]))
        self.add("c", cited())
        self.add("d", cited([one("b")]))
        # a0 waits for c0; as soon as it may come, it comes ahead of b1 and d.
        self.same(self.shelf.support(), [
            one("a", line=1), one("c"), one("a"), one("b"), one("d"), one("b", line=1)])

    def test_is_support(self):
        self.add("a", cited(), cited([one("a")]), cited([one("a", line=1)], [one("b"), one("c")]))
        self.add("b", cited([one("a", line=2)]))
        self.add("c", cited())
        order = self.shelf.support()
        self.same(order, [one("a"), one("a", line=1), one("c"), one("a", line=2), one("b")])
        for ids in itertools.chain.from_iterable(itertools.permutations(order, count) for count in range(6)):
            expected = all(all(any(other in ids[:at] for other in group) for group in self.shelf.groups(claim))
                           for at, claim in enumerate(ids))
            self.same(is_support(self.shelf, list(ids)), expected)
        for at, claim in enumerate(order):
            self.same(is_support(self.shelf, order[:at] + [claim] + order[at:]), False)
            for strange in ODD_THINGS + (one("x"), one("a", part=1), list(claim), ("a", True, 0, 0), ("a", 1, False, 0), ("a", 1.0, 0, 0)):
                self.same(is_support(self.shelf, order[:at] + [strange] + order[at:]), False)
                self.same(is_support(self.shelf, order[:at] + [strange] + order[at + 1:]), False)

    def test_is_support_with_retractions(self):
        self.add("a", cited())
        self.add("b", cited([one("a")]))
        self.same(is_support(self.shelf, [one("a"), one("b")]), True)
        self.shelf.retract("a", 1)
        self.same(is_support(self.shelf, [one("a"), one("b")]), False)
        self.same(is_support(self.shelf, [one("a")]), False)
        self.same(is_support(self.shelf, []), True)

    def test_any_value(self):
        self.add("a", cited())
        for thing in ODD_THINGS + ((one("a"),), {one("a"): 1}, {one("a")}, "a"):
            expected = thing == [] and isinstance(thing, list)
            self.same(is_support(self.shelf, thing), expected)
            self.same(is_fallen(self.shelf, thing), expected)
            self.same(is_support(self.shelf, [thing]), False)
            self.same(is_fallen(self.shelf, [thing]), False)
        self.same((is_support(self.shelf, one("a")), is_fallen(self.shelf, one("a"))), (False, False))


class TestFallen(Shelf):
    def test_is_fallen(self):
        self.add("a", cited([one("b")]), cited([one("x"), one("a")], [one("c")]), cited([one("a", line=2)]))
        self.add("b", cited([one("a")]))
        self.add("c", cited())
        fallen = self.shelf.fallen()
        self.same(fallen, [one("a"), one("a", line=1), one("a", line=2), one("b")])
        ids = self.shelf.claims()
        groups = {claim: self.shelf.groups(claim) for claim in ids}
        for chosen in itertools.chain.from_iterable(itertools.permutations(ids, count) for count in range(6)):
            expected = all(any(all(other in chosen or other not in ids for other in group) for group in groups[claim])
                           for claim in chosen)
            self.same(is_fallen(self.shelf, list(chosen)), expected)
        self.same(is_fallen(self.shelf, fallen), True)
        # One that is a ring by itself, doubled, and things that are no ids.
        self.same(is_fallen(self.shelf, [one("a", line=2)]), True)
        for at, claim in enumerate(fallen):
            self.same(is_fallen(self.shelf, fallen[:at] + [claim] + fallen[at:]), False)
            for strange in ODD_THINGS + (one("x"), list(claim), ("a", True, 2, 0), ("a", 1, 2, False), ("a", 1.0, 2, 0)):
                self.same(is_fallen(self.shelf, fallen[:at] + [strange] + fallen[at:]), False)

    def test_with_retractions(self):
        self.add("a", cited())
        self.add("b", cited([one("a")]))
        self.same(is_fallen(self.shelf, [one("a")]), False)
        self.same(is_fallen(self.shelf, [one("a"), one("b")]), False)
        self.shelf.retract("a", 1)
        self.same(is_fallen(self.shelf, [one("a")]), True)
        self.same(is_fallen(self.shelf, [one("a"), one("b")]), True)
        # The citation of a claim that is outside of the list is one, although it does not stand.
        self.same(is_fallen(self.shelf, [one("b")]), False)
        self.same(is_fallen(self.shelf, []), True)


class TestReach(Case):
    def setUp(self):
        self.r = goods("r", 4)
        self.s = goods("s", 2)
        self.shelf = Library([self.r, self.s])
        self.cells = (("low", ("r", (("keep", ("less", col("cost"), number(2))),))), ("high", ("r", (("keep", ("less", number(1), col("cost"))),))),
                      ("other", ("s", ())))

    def claim(self, cell, *groups):
        return ("claim", ("least", ("count", cell, "item"), (1, 1)), tuple(groups))

    def add(self, name, *parts):
        self.shelf.add(edition_of([self.r, self.s], self.cells, tuple((part,) for part in parts), paper=name))

    def test_holes(self):
        self.add("b", self.claim("low"), ("number", ("count", "low", "item"), 0), self.claim("high"), ("text", "a"))
        self.add("a", ("bar", ("sum", "other", "cost"), (0, 1), (2, 1), 3), self.claim("low"), ("number", ("sum", "high", "cost"), 1))
        self.same(self.shelf.reach("r", 1), (
            [("a", 1, 1, 0), ("b", 1, 0, 0), ("b", 1, 1, 0)], [("a", 1, 1, 0), ("b", 1, 0, 0)]))
        self.same(self.shelf.reach("r", 3), ([("a", 1, 2, 0), ("b", 1, 2, 0)], [("b", 1, 2, 0)]))
        self.same(self.shelf.reach("s", 0), ([("a", 1, 0, 0)], []))
        for name, row in (("r", 9), ("r", -1), ("q", 0), ("low", 0), ("r", True), ("r", 1.0)):
            self.same(self.shelf.reach(name, row), ([], []))

    def test_what_rests_on_them(self):
        self.add("a", self.claim("low"), self.claim("high"))
        self.add("b", self.claim("other", (one("a"),)), self.claim("other", (one("a"), one("a", line=1))))
        self.add("c", self.claim("other", (one("b"),)), self.claim("other", (one("b", line=1),)))
        # What has another road stays.
        self.same(self.shelf.reach("r", 0), ([one("a")], [one("a"), one("b"), one("c")]))
        self.same(self.shelf.reach("r", 2), ([one("a", line=1)], [one("a", line=1)]))
        self.shelf.retract("a", 1)
        self.same(self.shelf.reach("r", 0), ([one("a")], []))

    def test_claims_that_do_not_stand(self):
        self.add("a", self.claim("low", (one("x"),)), self.claim("low"))
        self.add("b", self.claim("low", (one("a"),)))
        self.same(self.shelf.reach("r", 0), ([one("a"), one("a", line=1), one("b")], [one("a", line=1)]))

    def test_one_that_cites_what_it_supports(self):
        self.add("a", self.claim("low"))
        self.add("b", self.claim("other", (one("a"), one("c"))))
        self.add("c", self.claim("other", (one("b"),)))
        self.same(self.shelf.reach("r", 0)[1], [one("a"), one("b"), one("c")])

    def test_nothing_changes(self):
        self.add("a", self.claim("low"))
        self.add("b", self.claim("other", (one("a"),)))
        before = state(self.shelf)
        self.shelf.reach("r", 0)
        self.shelf.ripple("a", 1)
        is_support(self.shelf, [one("a")])
        is_fallen(self.shelf, [one("a")])
        self.same(state(self.shelf), before)

    def test_later_rows_are_in_no_lineage(self):
        self.add("a", self.claim("low"))
        self.r.strike(0, author="bo")
        later = self.r.add(("a", (0, 1), True), author="bo")
        self.same(self.shelf.reach("r", later), ([], []))
        self.same(self.shelf.reach("r", 0), ([one("a")], [one("a")]))


class TestRipple(Shelf):
    def test_ripple(self):
        self.add("a", cited(), cited([one("a")]))
        self.add("b", cited([one("a")]), cited([one("a"), one("c")]), cited())
        self.add("c", cited(), cited([one("b")]))
        self.same(self.shelf.ripple("a", 1), [one("b"), one("c", line=1)])
        self.same(self.shelf.ripple("b", 1), [one("c", line=1)])
        self.same(self.shelf.ripple("c", 1), [])
        self.shelf.retract("c", 1)
        self.same(self.shelf.ripple("a", 1), [one("b"), one("b", line=1)])
        self.same(self.shelf.ripple("c", 1), [])

    def test_retracted(self):
        self.add("a", cited())
        self.add("b", cited([one("a")]))
        self.shelf.retract("a", 1)
        self.same(self.shelf.ripple("a", 1), [])
        self.same(self.shelf.ripple("b", 1), [])

    def test_other_editions_of_the_paper(self):
        self.add("a", cited())
        self.add("a", cited([one("a")]), edition=2)
        self.same(self.shelf.ripple("a", 1), [one("a", edition=2)])
        self.same(self.shelf.ripple("a", 2), [])


class TestByChance(Case):
    def test_against_the_definitions(self):
        chance = random.Random(29)
        r = goods("r", 2)
        fallen = 0
        for turn in range(60):
            shelf = Library([r])
            names = [(name, edition) for name in ("a", "b", "c") for edition in (1, 2)]
            ids = [key + (line, 0) for key in names for line in range(3)]
            for key in chance.sample(names, len(names)):
                parts = []
                for line in range(3):
                    groups = [[chance.choice(ids) for turn in range(chance.randint(1, 3))] for turn in range(chance.choice((0, 1, 1, 2)))]
                    parts.append(cited(*groups))
                shelf.add(paper_of(r, key[0], [(part,) for part in parts], key[1]))
            for key in chance.sample(names, chance.randint(0, 2)):
                shelf.retract(*key)
            groups = {claim: shelf.groups(claim) for claim in shelf.claims()}
            gone = shelf.retracted()
            standing = stand(groups, gone)
            self.same(shelf.standing(), standing)
            self.same(shelf.fallen(), [claim for claim in sorted(groups) if claim not in standing])
            self.same(shelf.support(), ordered(groups, gone))
            self.same((is_support(shelf, shelf.support()), is_fallen(shelf, shelf.fallen())), (True, True))
            fallen += len(shelf.fallen())
            for claim in shelf.fallen():
                self.same(is_support(shelf, shelf.support() + [claim]), False)
            for claim in standing:
                self.same(is_fallen(shelf, shelf.fallen() + [claim]), False)
            for key in names:
                left = stand(groups, gone + [key])
                expected = [claim for claim in standing if claim not in left and claim[:2] != key]
                self.same(shelf.ripple(*key), expected)
        self.assertGreater(fallen, 100)

    def test_many_claims(self):
        r = goods("r", 1)
        shelf = Library([r])
        before = None
        for number_of in range(1, 31):
            parts = [[cited([before])] if before else [cited()]]
            parts[0].extend(cited([("a", number_of, 0, at)]) for at in range(11))
            shelf.add(paper_of(r, "a", [tuple(part) for part in parts], number_of))
            before = ("a", number_of, 0, 11)
        self.assertEqual(shelf.support(), shelf.claims())
        self.assertEqual(len(shelf.ripple("a", 1)), 29 * 12)


if __name__ == "__main__":
    unittest.main()
