"""Hauls: for each walker the grove to whose gate it is sent."""

from towgrove.errors import NoMatch
from towgrove.groves import grove_of


def one_after_another(plan, masks, others):
    """The masks of the haul that does what two hauls do, given by their masks."""
    return [plan.led(mask, other) for mask, other in zip(masks, others)]


def haul_of_masks(party, masks):
    """The haul with the groves of these masks."""
    return Haul(party, [grove_of(party.tree, mask) for mask in masks])


class Haul:
    """A nonempty grove for each walker of a party."""

    def __init__(self, party, groves):
        if len(groves) != len(party.walkers):
            raise NoMatch("walkers")
        for grove in groves:
            if grove.tree != party.tree:
                raise NoMatch("tree")
        masks = [grove.mask for grove in groves]
        if 0 in masks:
            raise NoMatch("empty")
        self._party = party
        self._groves = tuple(groves)
        self.masks = masks

    @classmethod
    def still(cls, party):
        """The haul that leaves every standing alone."""
        whole = grove_of(party.tree, party.tree.plan.whole())
        return cls(party, [whole] * len(party.walkers))

    @property
    def party(self):
        """The party."""
        return self._party

    @property
    def groves(self):
        """The groves, one for each walker."""
        return self._groves

    @property
    def forgotten(self):
        """The walkers that are sent to the same place wherever they stand."""
        return tuple([walker for at, walker in enumerate(self._party.walkers) if len(self._groves[at]) == 1])

    def _match(self, other):
        if self._party != other._party:
            raise NoMatch("party")

    def _plan(self):
        return self._party.tree.plan

    def _sizes(self):
        return ", ".join([str(len(grove)) for grove in self._groves])

    def within(self, other):
        """Whether each grove is within the grove of the other haul."""
        self._match(other)
        return all([mask & more == mask for mask, more in zip(self.masks, other.masks)])

    def apart(self, other):
        """The first walker whose two groves are apart, or None."""
        self._match(other)
        for at, walker in enumerate(self._party.walkers):
            if not self.masks[at] & other.masks[at]:
                return walker
        return None

    def differs(self, other):
        """A gathered standing that both hauls send to different standings, or None."""
        self._match(other)
        for mask, more in zip(self.masks, other.masks):
            # Of a place in just one of two groves the gate in this one is the place itself.
            lone = self._plan().named(mask ^ more)
            if lone:
                return self._party.gathered(lone[0])
        return None

    def sources(self, other):
        """The haul that contains just the standings which the other sends into this one, or None."""
        if self.apart(other) is not None:
            return None
        masks = [self._plan().sources(mask, more) for mask, more in zip(self.masks, other.masks)]
        return haul_of_masks(self._party, masks)

    def __call__(self, standing):
        """The standing in which each walker is at its gate."""
        self._party.check(standing, legal=False)
        return tuple([grove(place) for grove, place in zip(self._groves, standing)])

    def __rshift__(self, other):
        self._match(other)
        return haul_of_masks(self._party, one_after_another(self._plan(), self.masks, other.masks))

    def __bool__(self):
        whole = self._plan().whole()
        return any([mask != whole for mask in self.masks])

    def __contains__(self, value):
        if not isinstance(value, tuple) or len(value) != len(self._groves):
            return False
        return all([place in grove for place, grove in zip(value, self._groves)])

    def __eq__(self, other):
        return isinstance(other, Haul) and self._party == other._party and self.masks == other.masks

    def __repr__(self):
        return f"Haul({self._sizes()})"
