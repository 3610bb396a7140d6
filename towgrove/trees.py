"""Trees of places."""

from towgrove.errors import NoMatch, NoPlace, NoTree
from towgrove.plans import Plan

LONGEST_NAME = 6
MOST_PLACES = 40


def is_tuple_of_strings(value):
    return isinstance(value, tuple) and all([isinstance(item, str) for item in value])


def check_form(places, edges):
    if not is_tuple_of_strings(places) or not isinstance(edges, tuple):
        raise NoTree("form", 0)
    for edge in edges:
        if not isinstance(edge, tuple) or len(edge) != 2:
            raise NoTree("form", 0)
        one, other = edge
        if not isinstance(one, str) or not isinstance(other, str):
            raise NoTree("form", 0)


def check_places(places):
    if not 1 <= len(places) <= MOST_PLACES:
        raise NoTree("size", 0)
    seen = set()
    for at, place in enumerate(places):
        if place in seen or not Tree.is_name(place):
            raise NoTree("place", at)
        seen.add(place)


def mates_by_place(places, edges):
    """For each place the other ends of its edges; the edges are checked one by one."""
    mates = {place: [] for place in places}
    for at, (one, other) in enumerate(edges):
        if one not in mates or other not in mates:
            raise NoTree("edge", at)
        if one == other or other in mates[one]:
            raise NoTree("edge", at)
        mates[one].append(other)
        mates[other].append(one)
    return mates


def in_place_order(mates):
    """The same neighbours, those of each place in place order."""
    near = {place: [] for place in mates}
    for place in mates:
        for mate in mates[place]:
            near[mate].append(place)
    return near


def check_joined(places, edges):
    # Places with the same number are connected by the edges so far.
    part = {place: at for at, place in enumerate(places)}
    for at, (one, other) in enumerate(edges):
        kept, lost = part[one], part[other]
        if kept == lost:
            raise NoTree("ring", at)
        for place in places:
            if part[place] == lost:
                part[place] = kept
    for at, place in enumerate(places):
        if part[place] != part[places[0]]:
            raise NoTree("apart", at)


class Tree:
    """Places, each two of them joined by exactly one path of edges."""

    def __init__(self, places, edges):
        check_form(places, edges)
        check_places(places)
        near = in_place_order(mates_by_place(places, edges))
        plan = Plan(places[0], near)
        # That all places are reached by one edge for each further place is quickly seen;
        # which edge or place is wrong is asked only where this does not hold.
        if len(plan.spots) != len(places) or len(edges) != len(places) - 1:
            check_joined(places, edges)
        self._places = places
        self._edges = edges
        self._shape = (places, near)
        self.plan = plan

    @staticmethod
    def is_name(value):
        """Whether any value is a name: one to six lower-case letters."""
        if not isinstance(value, str) or len(value) > LONGEST_NAME:
            return False
        return value.isascii() and value.isalpha() and value.islower()

    @classmethod
    def in_row(cls, *places):
        """The tree in which an edge joins each place with the one after it."""
        return cls(places, tuple(zip(places, places[1:])))

    @classmethod
    def star(cls, centre, *leaves):
        """The tree in which an edge joins the centre with each leaf."""
        return cls((centre, *leaves), tuple([(centre, leaf) for leaf in leaves]))

    @property
    def places(self):
        """The places, as they were given."""
        return self._places

    @property
    def edges(self):
        """The edges, as they were given."""
        return self._edges

    def spot(self, place):
        """The spot of a place in the plan; raises NoPlace."""
        if place not in self.plan.spots:
            raise NoPlace(place)
        return self.plan.spots[place]

    def neighbours(self, place):
        """The neighbours of a place, in place order."""
        self.spot(place)
        return tuple(self.plan.near[place])

    def distance(self, a, b):
        """The number of edges on the path from a to b."""
        return self.plan.distance(self.spot(a), self.spot(b))

    def toward(self, a, b):
        """The place after a on the path from a to b; a itself if both are the same."""
        return self.plan.names[self.plan.toward(self.spot(a), self.spot(b))]

    def median(self, a, b, c):
        """The place that lies on all three paths between two of these."""
        return self.plan.names[self.plan.median(self.spot(a), self.spot(b), self.spot(c))]

    def path(self, a, b):
        """Iterate over the places from a to b."""
        here, goal = self.spot(a), self.spot(b)
        while here != goal:
            yield self.plan.names[here]
            here = self.plan.toward(here, goal)
        yield b

    def walk(self, place):
        """Iterate over all places, by their distance from this one, then in place order."""
        start = self.spot(place)
        rings = [[] for ring in self._places]
        for other in self._places:
            rings[self.plan.distance(start, self.plan.spots[other])].append(other)
        for ring in rings:
            yield from ring

    def cut(self, a, b):
        """The two trees that remain without the edge between a and b, first the one with a."""
        one, other = self.spot(a), self.spot(b)
        if b not in self.plan.near[a]:
            raise NoMatch("edge")
        return self._part(self.plan.branch(other, one)), self._part(self.plan.branch(one, other))

    def _part(self, mask):
        """The tree of the places of a mask and of the edges between them."""
        spots = self.plan.spots
        edges = [edge for edge in self._edges if mask >> spots[edge[0]] & mask >> spots[edge[1]] & 1]
        return Tree(self.plan.named(mask), tuple(edges))

    def grafted(self, other, at, to):
        """The tree of both trees and an edge from a place of this one to one of the other."""
        self.spot(at)
        other.spot(to)
        if any([place in other for place in self._places]):
            raise NoMatch("place")
        if len(self) + len(other) > MOST_PLACES:
            raise NoMatch("size")
        return Tree((*self._places, *other._places), (*self._edges, *other._edges, (at, to)))

    def renamed(self, names):
        """The tree whose places have these names, given in place order."""
        if len(names) != len(self):
            raise NoMatch("size")
        name_of = {place: names[at] for at, place in enumerate(self._places)}
        edges = [(name_of[one], name_of[other]) for one, other in self._edges]
        return Tree(tuple(names), tuple(edges))

    def __len__(self):
        return len(self._places)

    def __contains__(self, value):
        return isinstance(value, str) and value in self.plan.spots

    def __eq__(self, other):
        return isinstance(other, Tree) and self._shape == other._shape

    def __repr__(self):
        return f"Tree({len(self._places)} places)"
