"""Groves that are told by their shape."""

from towgrove.errors import NoMatch
from towgrove.groves import Grove
from towgrove.lengths import Length
from towgrove.plans import ball_of


def as_length(radius):
    if isinstance(radius, Length):
        return radius
    return Length(radius)


class Ball(Grove):
    """All places that are no further from a centre than a radius."""

    def __init__(self, tree, centre, radius):
        super().__init__(tree, ())
        tree.spot(centre)
        self._centre = centre
        self._radius = as_length(radius)
        self.mask = ball_of(tree.plan.balls(centre), self._radius.number)

    @property
    def centre(self):
        """The centre."""
        return self._centre

    @property
    def radius(self):
        """The radius, a Length."""
        return self._radius


class Branch(Grove):
    """All places that are reached from a place through one of its neighbours."""

    def __init__(self, tree, at, away):
        super().__init__(tree, ())
        start, root = tree.spot(at), tree.spot(away)
        if at not in tree.neighbours(away):
            raise NoMatch("edge")
        self._root = away
        self.mask = tree.plan.branch(start, root)

    @property
    def root(self):
        """The place through which the others are reached."""
        return self._root


class Way(Grove):
    """The places of a path."""

    def __init__(self, tree, one, other):
        super().__init__(tree, ())
        self.mask = tree.plan.way(tree.spot(one), tree.spot(other))
        self._ends = (one, other)

    @property
    def ends(self):
        """The two places that the path joins."""
        return self._ends


class Whole(Grove):
    """All places of a tree."""

    def __init__(self, tree):
        super().__init__(tree, ())
        self.mask = tree.plan.whole()
