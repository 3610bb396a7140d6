"""Trees with slow answers about their places: each path is found by trying, each gate by its distance."""

import itertools
import random

from tests.kit import Case, every_tree, large_trees, slow_paths
from towgrove.groves import Grove
from towgrove.trees import Tree


class Land:

    def __init__(self, places, edges):
        self.places, self.edges = tuple(places), tuple(edges)
        self.tree = Tree(self.places, self.edges)
        self.paths = {place: slow_paths(self.places, self.edges, place) for place in self.places}

    def other_tree(self):
        """An equal tree whose edges come in another order and direction."""
        return Tree(self.places, tuple(edge[::-1] for edge in reversed(self.edges)))

    def distance(self, a, b):
        return len(self.paths[a][b]) - 1

    def in_order(self, members):
        return tuple(place for place in self.places if place in members)

    def gap(self, members):
        """The two places that NoGrove tells of, or None if these are a grove."""
        members = self.in_order(members)
        for place in members:
            if any(step not in members for step in self.paths[members[0]][place]):
                return members[0], place
        return None

    def gate(self, members, place):
        return min(members, key=lambda member: self.distance(member, place))

    def bridge(self, members, others):
        """The one pair of nearest places, of groves that are apart."""
        pairs = list(itertools.product(members, others))
        least = min(self.distance(*pair) for pair in pairs)
        nearest = [pair for pair in pairs if self.distance(*pair) == least]
        assert len(nearest) == 1 and least > 0
        return nearest[0]

    def hull(self, members):
        """The places of all paths between two of these."""
        found = set(members)
        for a, b in itertools.product(members, repeat=2):
            found |= set(self.paths[a][b])
        return self.in_order(found)

    def led(self, members, others):
        common = self.in_order(set(members) & set(others))
        return common or (self.bridge(members, others)[1],)

    def sources(self, members, others):
        return tuple(place for place in self.places if self.gate(others, place) in members)

    def every_grove(self):
        """The places of each grove, the empty one among them."""
        for many in range(len(self.places) + 1):
            for members in itertools.combinations(self.places, many):
                if self.gap(members) is None:
                    yield members

    def any_grove(self, chance, least=0):
        """The places of some grove, grown from one place."""
        many = chance.choice((least, 1, 2, 3, chance.randint(1, len(self.places))))
        many = max(least, min(many, len(self.places)))
        members = []
        while len(members) < many:
            beside = [place for place in self.places if place not in members
                      and any(self.distance(place, member) == 1 for member in members)]
            members.append(chance.choice(beside if members else self.places))
        return self.in_order(members)


def small_lands(most=4):
    for many in range(1, most + 1):
        for places, edges in every_tree(many):
            yield Land(places, edges)


def some_small_lands(many, every):
    """One in so many of the trees of this size."""
    for places, edges in itertools.islice(every_tree(many), 0, None, every):
        yield Land(places, edges)


def large_lands():
    for places, edges in large_trees():
        yield Land(places, edges)


def grove_pairs(seed=1):
    """Lands with the places of two groves on them: all pairs on small ones, some on large ones."""
    for land in small_lands(3):
        for members, others in itertools.product(land.every_grove(), repeat=2):
            yield land, members, others
    chance = random.Random(seed)
    for land in itertools.chain(some_small_lands(4, 1), some_small_lands(5, 9), large_lands()):
        for _ in range(12):
            yield land, land.any_grove(chance), land.any_grove(chance)


class GroveCase(Case):

    def same_grove(self, grove, tree, members):
        """Check that this is a plain grove on this very tree, with these places in this order."""
        self.assertIs(grove.__class__, Grove)
        self.assertIs(grove.tree, tree)
        self.check_members(grove, members)

    def check_members(self, grove, members):
        self.assertIs(grove.places.__class__, tuple)
        self.assertEqual(grove.places, tuple(members))
        self.assertIs(len(grove).__class__, int)
        self.assertEqual(len(grove), len(members))
        self.assertIs(bool(grove), len(members) > 0)
        self.assertEqual(repr(grove), f'Grove({len(members)} of {len(grove.tree)})')
        for place in grove.tree.places:
            self.assertIs(place in grove, place in members)
