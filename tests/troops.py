"""Parties with a slow model: hauls are found by distances, pulls are done by ropes that drag step by step."""

import itertools
import random

from tests.kit import Case, edges_of_code, mixed_edges, mixed_names
from tests.lands import Land
from tests.ropes import NAMES, any_ropes, slow_reaches
from towgrove.hauls import Haul
from towgrove.parties import Party
from towgrove.trees import Tree
from towgrove.webs import Web


class Troop:

    def __init__(self, land, web):
        self.land, self.web, self.walkers = land, web, web.walkers
        self.party = Party(land.tree, web)
        self.reaches = slow_reaches(web)

    def other_party(self):
        """An equal party of another tree and another web."""
        return Party(self.land.other_tree(), self.web.only(self.walkers))

    def pulls(self):
        return list(itertools.product(self.walkers, self.land.places))

    def within_reach(self, distance, a, b):
        return self.reaches[a, b] is None or distance <= self.reaches[a, b]

    def strained(self, standing):
        """The index of the first walker that is too far from an earlier one, or None."""
        for at, walker in enumerate(self.walkers):
            for earlier in range(at):
                distance = self.land.distance(standing[at], standing[earlier])
                if not self.within_reach(distance, walker, self.walkers[earlier]):
                    return at
        return None

    def standings(self):
        return list(itertools.product(self.land.places, repeat=len(self.walkers)))

    def legal_standings(self):
        return [standing for standing in self.standings() if self.strained(standing) is None]

    def any_standing(self, chance):
        return tuple(chance.choice(self.land.places) for _ in self.walkers)

    def any_legal(self, chance):
        standing = (chance.choice(self.land.places),) * len(self.walkers)
        for _ in range(chance.randint(0, 6)):
            standing = self.after(standing, self.any_pull(chance))
        return standing

    def any_pull(self, chance):
        return chance.choice(self.walkers), chance.choice(self.land.places)

    def any_row(self, chance, most, choice=None):
        pulls = choice or self.pulls()
        return tuple(chance.choice(pulls) for _ in range(chance.randint(0, most)))

    def pull_members(self, walker, place):
        """The places of the groves of a pull."""
        return [tuple(other for other in self.land.places
                      if self.within_reach(self.land.distance(other, place), walker, mate)) for mate in self.walkers]

    def row_members(self, row):
        """The places of the groves of a row."""
        found = [self.land.places] * len(self.walkers)
        for walker, place in row:
            found = [self.land.led(*pair) for pair in zip(found, self.pull_members(walker, place))]
        return found

    def gates(self, members, standing):
        return tuple(self.land.gate(grove, place) for grove, place in zip(members, standing))

    def after(self, standing, pull):
        return self.gates(self.pull_members(*pull), standing)

    def tight(self, where, moved):
        """The pairs of a walker that has not moved and one that has, with a rope that is too short."""
        found = []
        for one, other, length in self.web.ropes:
            for still, mover in ((one, other), (other, one)):
                if still not in moved and mover in moved and self.land.distance(where[still], where[mover]) > length:
                    found.append((still, mover))
        return found

    def drag(self, standing, pull, choose):
        """Each standing of a pull after a single move; `choose` picks one of the pairs that drag."""
        walker, place = pull
        where = dict(zip(self.walkers, standing))
        yield tuple(where.values())
        while where[walker] != place:
            moved = set()
            mover, goal = walker, place
            while mover is not None:
                moved.add(mover)
                where[mover] = self.land.paths[where[mover]][goal][1]
                yield tuple(where.values())
                pairs = self.tight(where, moved)
                mover, other = choose(pairs) if pairs else (None, None)
                goal = where.get(other)

    def dragged(self, standing, row, choose=lambda pairs: pairs[0]):
        """Where a row leads, one single move after another."""
        for pull in row:
            *_, standing = self.drag(standing, pull, choose)
        return standing

    def dragged_members(self, row):
        """The places of the groves of a row: where it leads from the gathered standings."""
        ends = [self.dragged((place,) * len(self.walkers), row) for place in self.land.places]
        return [self.land.in_order(set(places)) for places in zip(*ends)]


class TroopCase(Case):

    def check_haul(self, haul, party, members):
        """Check that this is a haul of this very party whose groves have these places."""
        self.assertIs(haul.__class__, Haul)
        self.assertIs(haul.party, party)
        self.assertIs(haul.groves.__class__, tuple)
        self.assertEqual([grove.places for grove in haul.groves], [tuple(grove) for grove in members])
        for grove in haul.groves:
            self.assertEqual(grove.tree, party.tree)
        self.assertEqual(repr(haul), f"Haul({', '.join(str(len(grove)) for grove in members)})")


def any_land(many, chance):
    places = mixed_names(many, seed=chance.randrange(10 ** 6))
    code = [chance.randrange(many) for _ in range(max(many - 2, 0))]
    kind = chance.randrange(3)
    if many == 1:
        return Land(places, ())
    if kind == 0:
        return Land(places, mixed_edges(zip(places, places[1:]), chance))
    if kind == 1:
        return Land(places, mixed_edges([(places[0], place) for place in places[1:]], chance))
    return Land(places, mixed_edges(edges_of_code(code, places), chance))


def any_troop(many, walkers, chance):
    lengths = chance.choice(((0, 1), (1, 2), (0, 1, 2, 3), (2, 5), tuple(range(many + 1))))
    names = tuple(chance.sample(NAMES, walkers))
    web = Web(names, any_ropes(names, chance.choice((0, walkers - 1, walkers, 2 * walkers)), lengths, chance))
    return Troop(any_land(many, chance), web)


def small_troops(seed=1, times=3):
    """Parties whose standings can all be listed."""
    chance = random.Random(seed)
    for many, walkers in ((1, 1), (1, 3), (2, 2), (3, 1), (3, 2), (3, 3), (4, 2), (4, 3), (5, 2), (6, 2)):
        for _ in range(times):
            yield any_troop(many, walkers, chance)


def some_troops(seed=1, times=3):
    """Small and large parties, up to 40 places and 6 walkers."""
    chance = random.Random(seed)
    for many, walkers in itertools.product((1, 2, 4, 7, 12), (1, 2, 3, 6)):
        for _ in range(times):
            yield any_troop(many, walkers, chance)
    yield any_troop(40, 6, chance)


T = Tree(('a', 'b', 'c', 'd', 'e'), (('a', 'b'), ('b', 'c'), ('c', 'd'), ('c', 'e')))
W = Web(('p', 'q', 'r'), (('p', 'q', 1), ('q', 'r', 2)))
P = Party(T, W)
EQUAL = Party(Tree(T.places, T.edges[::-1]), Web(W.walkers, (('r', 'q', 2), ('q', 'p', 1), ('p', 'r', 5))))

# Parties that differ from P in one edge, one place, one rope, the walkers or their order.
OTHERS = (
    Party(Tree(T.places, T.edges[:3] + (('d', 'e'),)), W), Party(Tree(('b', 'a', 'c', 'd', 'e'), T.edges), W),
    Party(T.renamed(('a', 'b', 'c', 'd', 'f')), W), Party(T.cut('c', 'e')[0], W),
    Party(T, Web(W.walkers, (('p', 'q', 1), ('q', 'r', 1)))), Party(T, Web(W.walkers, (('p', 'q', 1),))),
    Party(T, Web(('q', 'p', 'r'), W.ropes)), Party(T, Web(('p', 'q', 'r', 's'), W.ropes)), Party(T, W.only(('p', 'q'))),
)
