"""Groves: sets of places that hold together."""

from towgrove.errors import NoGrove, NoMatch
from towgrove.plans import lowest


def mask_of(tree, places):
    """The mask of these places of a tree; raises NoPlace and NoGrove."""
    mask = 0
    for place in places:
        mask = mask | 1 << tree.spot(place)
    if not mask:
        return mask
    members = tree.plan.named(mask)
    for place in members:
        way = tree.plan.way(tree.plan.spots[members[0]], tree.plan.spots[place])
        if way & mask != way:
            raise NoGrove(members[0], place)
    return mask


def grove_of(tree, mask):
    """The grove with a mask that is known to be one of a grove."""
    grove = Grove(tree, ())
    grove.mask = mask
    return grove


class Grove:
    """Places of a tree that contain, with any two of them, all places of their path."""

    def __init__(self, tree, places):
        self._tree = tree
        # All that a grove answers is found from its mask: see Plan.
        self.mask = mask_of(tree, places)

    @property
    def tree(self):
        """The tree."""
        return self._tree

    @property
    def places(self):
        """The places, in place order."""
        return self._tree.plan.named(self.mask)

    def _match(self, other):
        if self._tree != other._tree:
            raise NoMatch("tree")

    def _match_filled(self, other):
        self._match(other)
        if not self.mask or not other.mask:
            raise NoMatch("empty")

    def within(self, other):
        """Whether all places of this grove are in the other."""
        self._match(other)
        return self.mask & other.mask == self.mask

    def bridge(self, other):
        """The nearest places of both groves, or None if they meet."""
        self._match_filled(other)
        if self.mask & other.mask:
            return None
        plan = self._tree.plan
        here = plan.gate(self.mask, lowest(other.mask))
        there = plan.gate(other.mask, lowest(self.mask))
        return plan.names[here], plan.names[there]

    def sources(self, other):
        """The grove of all places whose gate in the other lies in this one."""
        self._match_filled(other)
        return grove_of(self._tree, self._tree.plan.sources(self.mask, other.mask))

    def leaves(self):
        """Iterate over the places with at most one neighbour in the grove, in place order."""
        for place in self.places:
            if len([mate for mate in self._tree.neighbours(place) if mate in self]) <= 1:
                yield place

    def border(self):
        """Iterate over the pairs of neighbours, one in the grove and one not, in place order."""
        for place in self.places:
            for mate in self._tree.neighbours(place):
                if mate not in self:
                    yield place, mate

    def __call__(self, place):
        """The gate of a place."""
        spot = self._tree.spot(place)
        if not self.mask:
            raise NoMatch("empty")
        return self._tree.plan.names[self._tree.plan.gate(self.mask, spot)]

    def __mul__(self, other):
        self._match(other)
        return grove_of(self._tree, self.mask & other.mask)

    def __add__(self, other):
        self._match(other)
        return grove_of(self._tree, self._tree.plan.hull(self.mask, other.mask))

    def __rshift__(self, other):
        self._match_filled(other)
        return grove_of(self._tree, self._tree.plan.led(self.mask, other.mask))

    def __len__(self):
        return len(self.places)

    def __bool__(self):
        return bool(self.mask)

    def __contains__(self, value):
        return value in self._tree and self.mask >> self._tree.plan.spots[value] & 1 == 1

    def __eq__(self, other):
        return isinstance(other, Grove) and self._tree == other._tree and self.mask == other.mask

    def __repr__(self):
        return f"Grove({len(self)} of {len(self._tree)})"
