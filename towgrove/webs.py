"""Webs: walkers and the ropes between them."""

from towgrove.errors import NoMatch, NoWalker, NoWeb
from towgrove.lengths import Length
from towgrove.trees import Tree, is_tuple_of_strings

MOST_WALKERS = 6


def is_rope(value):
    """Whether any value is a triple of a string, a string and an integer."""
    if not isinstance(value, tuple) or len(value) != 3:
        return False
    one, other, length = value
    if not isinstance(one, str) or not isinstance(other, str):
        return False
    return isinstance(length, int) and not isinstance(length, bool)


def check_form(walkers, ropes):
    if not is_tuple_of_strings(walkers) or not isinstance(ropes, tuple):
        raise NoWeb("form", 0)
    for rope in ropes:
        if not is_rope(rope):
            raise NoWeb("form", 0)


def check_walkers(walkers):
    if not 1 <= len(walkers) <= MOST_WALKERS:
        raise NoWeb("size", 0)
    for at, walker in enumerate(walkers):
        if walker in walkers[:at] or not Tree.is_name(walker):
            raise NoWeb("walker", at)


def check_ropes(walkers, ropes):
    for at, (one, other, length) in enumerate(ropes):
        if one not in walkers or other not in walkers or one == other or length < 0:
            raise NoWeb("rope", at)


def is_less(length, other):
    """Whether a length is less than another; None is the free one."""
    return length is not None and (other is None or length < other)


def ties_of(walkers, ropes):
    """The length of the shortest rope of each two walkers, or None, by walker and walker."""
    ties = {walker: {mate: None for mate in walkers} for walker in walkers}
    for one, other, length in ropes:
        if is_less(length, ties[one][other]):
            ties[one][other] = length
            ties[other][one] = length
    return ties


def reaches_of(walkers, ties):
    """The reach of each two walkers, None for the free one, by walker and walker."""
    reaches = {walker: {mate: ties[walker][mate] for mate in walkers} for walker in walkers}
    for walker in walkers:
        reaches[walker][walker] = 0
    for between in walkers:
        for one in walkers:
            first = reaches[one][between]
            if first is None:
                continue
            for other in walkers:
                second = reaches[between][other]
                if second is not None and is_less(first + second, reaches[one][other]):
                    reaches[one][other] = first + second
    return reaches


def pairs(walkers):
    """Each two of some walkers, an earlier one first."""
    return [(one, other) for at, one in enumerate(walkers) for other in walkers[at + 1:]]


class Web:
    """Walkers in a fixed order, and ropes that tie them two by two."""

    def __init__(self, walkers, ropes):
        check_form(walkers, ropes)
        check_walkers(walkers)
        check_ropes(walkers, ropes)
        self._walkers = walkers
        self._ropes = ropes
        # Numbers instead of lengths, None for a free one, since most of what asks for them calculates.
        self.ties = ties_of(walkers, ropes)
        self.reaches = reaches_of(walkers, self.ties)
        self._shape = (walkers, self.reaches)

    @classmethod
    def loose(cls, *walkers):
        """The web of these walkers without ropes."""
        return cls(walkers, ())

    @classmethod
    def complete(cls, walkers, length):
        """The web in which a rope of this length ties each two walkers."""
        return cls(walkers, tuple([(one, other, length) for one, other in pairs(walkers)]))

    @property
    def walkers(self):
        """The walkers, as they were given."""
        return self._walkers

    @property
    def ropes(self):
        """The ropes, as they were given."""
        return self._ropes

    def require(self, *walkers):
        """Raise NoWalker for the first of these that is not a walker."""
        for walker in walkers:
            if walker not in self._walkers:
                raise NoWalker(walker)

    def reach(self, a, b):
        """The smallest sum of lengths along a chain of ropes from one walker to another, a Length."""
        self.require(a, b)
        return Length(self.reaches[a][b])

    def chain(self, a, b):
        """A chain of tied walkers whose shortest ropes sum to the reach, or None if it is free."""
        self.require(a, b)
        if self.reaches[a][b] is None:
            return None
        chains = {a: (a,)}
        waiting = [a]
        while b not in chains:
            here = waiting.pop()
            for walker in self._walkers:
                if walker not in chains and self._leads(here, walker, b):
                    chains[walker] = (*chains[here], walker)
                    waiting.append(walker)
        return chains[b]

    def _leads(self, here, walker, goal):
        """Whether a shortest chain from one walker to a goal may begin with the rope to another."""
        # What is tied to a walker that reaches the goal reaches it too, so there is a number to add.
        tie = self.ties[here][walker]
        return tie is not None and tie + self.reaches[walker][goal] == self.reaches[here][goal]

    def tied(self, a, b, length):
        """The web with one more rope."""
        self.require(a, b)
        if a == b:
            raise NoMatch("walkers")
        return Web(self._walkers, (*self._ropes, (a, b, length)))

    def loosened(self, a, b):
        """The web without the ropes that tie these two directly."""
        self.require(a, b)
        ends = ((a, b), (b, a))
        return Web(self._walkers, tuple([rope for rope in self._ropes if rope[:2] not in ends]))

    def only(self, walkers):
        """The web of these walkers, with a rope as long as the reach for each two that have one."""
        self.require(*walkers)
        kept = tuple([walker for walker in self._walkers if walker in walkers])
        if not kept or len(kept) != len(walkers):
            raise NoMatch("walkers")
        tied = [(one, other) for one, other in pairs(kept) if self.reaches[one][other] is not None]
        return Web(kept, tuple([(one, other, self.reaches[one][other]) for one, other in tied]))

    def tighter(self, other):
        """Whether each reach is at most the same reach in the other web."""
        if self._walkers != other._walkers:
            raise NoMatch("walkers")
        slack = [(a, b) for a, b in pairs(self._walkers) if is_less(other.reaches[a][b], self.reaches[a][b])]
        return not slack

    def __len__(self):
        return len(self._walkers)

    def __contains__(self, value):
        return value in self._walkers

    def __eq__(self, other):
        return isinstance(other, Web) and self._shape == other._shape

    def __repr__(self):
        return f"Web({len(self._walkers)} walkers)"
