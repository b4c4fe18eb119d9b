"""Libraries: editions, their citations and their retractions, and which claims stand."""

from liveclaims.errors import Already, BadEdition, Exists, NoEdition, UnknownName
from liveclaims.exact import is_whole
from liveclaims.judging import judge
from liveclaims.notebooks import check_registers
from liveclaims.sentences import holes_in
from liveclaims.steps import is_tuple_of
from liveclaims.tracing import holes_of


def is_id(thing):
    """Whether a thing has the form of a claim id, so that it can be looked up: True would be found where 1 is."""
    if not is_tuple_of(thing, 4, 4) or not isinstance(thing[0], str):
        return False
    return all([is_whole(number) for number in thing[1:]])


def citing(groups):
    """A dict from what is cited to the (claim id, number of its group) that cite it."""
    found = {}
    for claim_id in groups:
        for at, group in enumerate(groups[claim_id]):
            for cited in group:
                found.setdefault(cited, []).append((claim_id, at))
    return found


def derived(groups, barred):
    """The ids of the claims that stand if none of those in barred does, each behind what supports it.

    Of all those that may come next the least one does. groups is a dict from claim ids to groups.
    """
    users = citing(groups)
    lacking = {claim_id: {at: True for at in range(len(groups[claim_id]))} for claim_id in groups}
    ready = [claim_id for claim_id in groups if len(groups[claim_id]) == 0 and claim_id not in barred]
    order = []
    while len(ready) > 0:
        least = min(ready)
        ready.remove(least)
        order.append(least)
        for user, at in users.get(least, []):
            # A group may have several citations that stand, and the same one twice.
            if at in lacking[user]:
                del lacking[user][at]
                if len(lacking[user]) == 0 and user not in barred:
                    ready.append(user)
    return order


class Library:
    """Editions over registers. A Register is kept itself, so its later changes are seen."""

    def __init__(self, registers):
        check_registers(registers)
        self.origins = list(registers)
        # From (paper, number) to the edition.
        self.shelf = {}
        # A dict of True for the (paper, number) that are retracted.
        self.gone = {}

    def check_edition(self, paper, number):
        if paper not in [kept[0] for kept in self.shelf]:
            raise UnknownName(paper)
        if not is_whole(number) or (paper, number) not in self.shelf:
            raise NoEdition(number)

    def add(self, edition):
        place = judge(self.origins, edition)
        if place is not None:
            raise BadEdition(place)
        paper, number = edition[:2]
        if (paper, number) in self.shelf:
            raise Exists(paper, number)
        self.shelf[(paper, number)] = edition

    def retract(self, paper, number):
        self.check_edition(paper, number)
        if (paper, number) in self.gone:
            raise Already()
        self.gone[(paper, number)] = True

    def restore(self, paper, number):
        self.check_edition(paper, number)
        if (paper, number) not in self.gone:
            raise Already()
        del self.gone[(paper, number)]

    def editions(self):
        return sorted(self.shelf)

    def retracted(self):
        return sorted(self.gone)

    def all_groups(self):
        """A dict from all claim ids, ascending, to the claims' groups."""
        return {key + (line, at): part[2] for key in self.editions()
                for line, at, part in holes_in(self.shelf[key][4]) if part[0] == "claim"}

    def claims(self):
        return list(self.all_groups())

    def groups(self, claim_id):
        groups = self.all_groups()
        if not is_id(claim_id) or claim_id not in groups:
            raise UnknownName(claim_id)
        return groups[claim_id]

    def edition(self, paper, number):
        self.check_edition(paper, number)
        return self.shelf[(paper, number)]

    def standing_without(self, taken):
        """The standing ids in the order of support, as if the claims in taken, a dict of True, were not there."""
        groups = self.all_groups()
        return derived(groups, {claim_id: True for claim_id in groups
                                if claim_id in taken or claim_id[:2] in self.gone})

    def lost_without(self, taken):
        """The ids, ascending, that stand, and would not if the claims in taken were not there."""
        left = {claim_id: True for claim_id in self.standing_without(taken)}
        return [claim_id for claim_id in self.standing() if claim_id not in left]

    def standing(self):
        return sorted(self.standing_without({}))

    def fallen(self):
        stand = {claim_id: True for claim_id in self.standing_without({})}
        return [claim_id for claim_id in self.claims() if claim_id not in stand]

    def support(self):
        return self.standing_without({})

    def reach(self, origin, number):
        holes = [key + hole for key in self.editions() for hole in holes_of(self.shelf[key], origin, number)]
        return (holes, self.lost_without({hole: True for hole in holes}))

    def ripple(self, paper, number):
        self.check_edition(paper, number)
        own = {claim_id: True for claim_id in self.claims() if claim_id[:2] == (paper, number)}
        return [claim_id for claim_id in self.lost_without(own) if claim_id not in own]

    def __len__(self):
        return len(self.shelf)


def are_unlike_ids(groups, things):
    """Whether things is a list of unlike claim ids; groups is a dict from all of them."""
    if not isinstance(things, list) or not all([is_id(thing) and thing in groups for thing in things]):
        return False
    return len(set(things)) == len(things)


def is_support(library, order):
    groups = library.all_groups()
    if not are_unlike_ids(groups, order):
        return False
    retracted = library.retracted()
    earlier = {}
    for claim_id in order:
        if claim_id[:2] in retracted:
            return False
        if not all([any([cited in earlier for cited in group]) for group in groups[claim_id]]):
            return False
        earlier[claim_id] = True
    return True


def is_fallen(library, ids):
    groups = library.all_groups()
    if not are_unlike_ids(groups, ids):
        return False
    retracted = library.retracted()
    inside = {claim_id: True for claim_id in ids}
    outside = {claim_id: True for claim_id in groups if claim_id not in inside}
    for claim_id in ids:
        lacks = any([not any([cited in outside for cited in group]) for group in groups[claim_id]])
        if not lacks and claim_id[:2] not in retracted:
            return False
    return True
