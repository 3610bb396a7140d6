"""Trees of places."""

from towgrove.errors import NoMatch, NoPlace, NoTree

LETTERS = "abcdefghijklmnopqrstuvwxyz"
LONGEST_NAME = 6
MOST_PLACES = 40


def is_tuple_of_strings(value):
    return isinstance(value, tuple) and all([isinstance(item, str) for item in value])


def check_form(places, edges):
    if not is_tuple_of_strings(places) or not isinstance(edges, tuple):
        raise NoTree("form", 0)
    for edge in edges:
        if not is_tuple_of_strings(edge) or len(edge) != 2:
            raise NoTree("form", 0)


def check_places(places):
    if not 1 <= len(places) <= MOST_PLACES:
        raise NoTree("size", 0)
    seen = set()
    for at, place in enumerate(places):
        if place in seen or not Tree.is_name(place):
            raise NoTree("place", at)
        seen.add(place)


def check_edges(places, edges):
    seen = set()
    for at, (one, other) in enumerate(edges):
        if one not in places or other not in places:
            raise NoTree("edge", at)
        if one == other or (one, other) in seen:
            raise NoTree("edge", at)
        seen.add((one, other))
        seen.add((other, one))


def check_joined(places, edges):
    # Places with the same number are connected by the edges so far.
    part = {place: at for at, place in enumerate(places)}
    for at, (one, other) in enumerate(edges):
        kept, lost = part[one], part[other]
        if kept == lost:
            raise NoTree("ring", at)
        for place in places:
            if part[place] == lost:
                part[place] = kept
    for at, place in enumerate(places):
        if part[place] != part[places[0]]:
            raise NoTree("apart", at)


def neighbours_by_place(places, edges):
    beside = {place: {} for place in places}
    for one, other in edges:
        beside[one][other] = True
        beside[other][one] = True
    near = {}
    for place in places:
        near[place] = tuple([mate for mate in places if mate in beside[place]])
    return near


def ways_to(root, near):
    """For each place the next one on the path to the root; the root itself for the root."""
    after = {root: root}
    waiting = [root]
    while waiting:
        here = waiting.pop()
        for place in near[here]:
            if place not in after:
                after[place] = here
                waiting.append(place)
    return after


def distances_from(root, after):
    far = {root: 0}
    # In this dict a place stands behind the one it leads to, whose distance is then known.
    for place, closer in after.items():
        if place != root:
            far[place] = far[closer] + 1
    return far


class Tree:
    """Places, each two of them joined by exactly one path of edges."""

    def __init__(self, places, edges):
        check_form(places, edges)
        check_places(places)
        check_edges(places, edges)
        check_joined(places, edges)
        near = neighbours_by_place(places, edges)
        after = {place: ways_to(place, near) for place in places}
        self._places = places
        self._edges = edges
        self._near = near
        # Walks and distances are asked for all the time and a tree never changes,
        # so both are worked out once, for each place as the end.
        self._after = after
        self._far = {place: distances_from(place, after[place]) for place in places}

    @staticmethod
    def is_name(value):
        """Whether any value is a name: one to six lower-case letters."""
        if not isinstance(value, str) or not 1 <= len(value) <= LONGEST_NAME:
            return False
        return all([letter in LETTERS for letter in value])

    @classmethod
    def in_row(cls, *places):
        """The tree in which an edge joins each place with the one after it."""
        return cls(places, tuple(zip(places, places[1:])))

    @classmethod
    def star(cls, centre, *leaves):
        """The tree in which an edge joins the centre with each leaf."""
        return cls((centre, *leaves), tuple([(centre, leaf) for leaf in leaves]))

    @property
    def places(self):
        """The places, as they were given."""
        return self._places

    @property
    def edges(self):
        """The edges, as they were given."""
        return self._edges

    def require(self, *places):
        """Raise NoPlace for the first of these that is not a place."""
        for place in places:
            if place not in self:
                raise NoPlace(place)

    def neighbours(self, place):
        """The neighbours of a place, in place order."""
        self.require(place)
        return self._near[place]

    def distance(self, a, b):
        """The number of edges on the path from a to b."""
        self.require(a, b)
        return self._far[a][b]

    def toward(self, a, b):
        """The place after a on the path from a to b; a itself if both are the same."""
        self.require(a, b)
        return self._after[b][a]

    def median(self, a, b, c):
        """The place that lies on all three paths between two of these."""
        self.require(a, b, c)
        here = c
        # The way from c to a joins the path from a to b where all three paths meet.
        while self._far[a][here] + self._far[here][b] > self._far[a][b]:
            here = self._after[a][here]
        return here

    def path(self, a, b):
        """Iterate over the places from a to b."""
        self.require(a, b)
        here = a
        while here != b:
            yield here
            here = self._after[b][here]
        yield b

    def walk(self, place):
        """Iterate over all places, by their distance from this one, then in place order."""
        self.require(place)
        far = self._far[place]
        for edges_away in range(len(self._places)):
            for other in self._places:
                if far[other] == edges_away:
                    yield other

    def cut(self, a, b):
        """The two trees that remain without the edge between a and b, first the one with a."""
        self.require(a, b)
        if b not in self._near[a]:
            raise NoMatch("edge")
        return self._side(a, b), self._side(b, a)

    def _side(self, end, away):
        """The tree of the places that are nearer to one end of an edge than to the other."""
        places = [place for place in self._places if self._far[end][place] < self._far[away][place]]
        edges = [edge for edge in self._edges if edge[0] in places and edge[1] in places]
        return Tree(tuple(places), tuple(edges))

    def grafted(self, other, at, to):
        """The tree of both trees and an edge from a place of this one to one of the other."""
        self.require(at)
        other.require(to)
        if any([place in other for place in self._places]):
            raise NoMatch("place")
        if len(self) + len(other) > MOST_PLACES:
            raise NoMatch("size")
        return Tree((*self._places, *other._places), (*self._edges, *other._edges, (at, to)))

    def renamed(self, names):
        """The tree whose places have these names, given in place order."""
        if len(names) != len(self):
            raise NoMatch("size")
        name_of = {place: names[at] for at, place in enumerate(self._places)}
        edges = [(name_of[one], name_of[other]) for one, other in self._edges]
        return Tree(tuple(names), tuple(edges))

    def __len__(self):
        return len(self._places)

    def __contains__(self, value):
        return isinstance(value, str) and value in self._near

    def __eq__(self, other):
        return isinstance(other, Tree) and self._places == other._places and self._near == other._near

    def __repr__(self):
        return f"Tree({len(self._places)} places)"
