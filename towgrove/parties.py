"""Parties: a tree with a web of walkers on it."""

from towgrove.errors import Broken, NoStanding
from towgrove.hauls import Haul, haul_of_masks, one_after_another
from towgrove.plans import ball_of
from towgrove.trees import is_tuple_of_strings

FIELD = 7


def is_beyond(distance, limit):
    """Whether a distance is greater than a limit; None is no limit."""
    return limit is not None and distance > limit


class Party:
    """A tree and a web: the walkers stand on places of the tree and are tied by the ropes of the web."""

    def __init__(self, tree, web):
        self._tree = tree
        self._web = web

    @property
    def tree(self):
        """The tree."""
        return self._tree

    @property
    def web(self):
        """The web."""
        return self._web

    @property
    def walkers(self):
        """The walkers of the web."""
        return self._web.walkers

    def gathered(self, place):
        """The standing in which all walkers stand on one place."""
        self._tree.spot(place)
        return (place,) * len(self._web)

    def check(self, value, *, legal=True):
        """Whether any value is a standing, and a legal one; raises NoStanding if it is not."""
        if not is_tuple_of_strings(value) or len(value) != len(self._web):
            raise NoStanding("form", -1)
        for at, place in enumerate(value):
            if place not in self._tree:
                raise NoStanding("place", at)
        if legal:
            self._check_ropes(value)
        return True

    def _check_ropes(self, standing):
        plan = self._tree.plan
        spots = [plan.spots[place] for place in standing]
        for at, walker in enumerate(self.walkers):
            reaches = self._web.reaches[walker]
            for earlier, other in enumerate(self.walkers[:at]):
                if is_beyond(plan.distance(spots[at], spots[earlier]), reaches[other]):
                    raise NoStanding("rope", at)

    def pull_masks(self, walker, place):
        """The masks of the groves of a pull."""
        balls = self._tree.plan.balls(place)
        return [ball_of(balls, self._web.reaches[walker][other]) for other in self.walkers]

    def pull(self, walker, place):
        """The haul of a pull."""
        self._web.require(walker)
        self._tree.spot(place)
        return haul_of_masks(self, self.pull_masks(walker, place))

    def is_pull(self, value):
        """Whether any value is a pair of a walker and a place."""
        if not isinstance(value, tuple) or len(value) != 2:
            return False
        return value[0] in self._web and value[1] in self._tree

    def row_masks(self, row):
        """The masks of each pull of a row; raises Broken."""
        for at, pull in enumerate(row):
            if not self.is_pull(pull):
                raise Broken(at)
        return [self.pull_masks(walker, place) for walker, place in row]

    def haul(self, row):
        """The haul of a row."""
        plan = self._tree.plan
        found = Haul.still(self).masks
        for masks in self.row_masks(row):
            found = one_after_another(plan, found, masks)
        return haul_of_masks(self, found)

    def haul_of(self, *pulls):
        """The haul of the row of these pulls."""
        return self.haul(pulls)

    def steps(self, standing, walker, place):
        """Iterate over the standings of a pull: the given one, and then one for each single move."""
        self.check(standing)
        self._web.require(walker)
        goal = self._tree.spot(place)
        yield standing
        plan = self._tree.plan
        spots = {mate: plan.spots[standing[at]] for at, mate in enumerate(self.walkers)}
        while spots[walker] != goal:
            moved = {}
            mover, target = walker, goal
            while mover is not None:
                moved[mover] = True
                spots[mover] = plan.toward(spots[mover], target)
                yield tuple([plan.names[spots[mate]] for mate in self.walkers])
                mover, target = self._dragged(spots, moved)

    def _dragged(self, spots, moved):
        """The first walker that a rope to one that has moved drags, and the spot that it is dragged to."""
        for walker in [mate for mate in self.walkers if mate not in moved]:
            for mover in moved:
                far = self._tree.plan.distance(spots[walker], spots[mover])
                if is_beyond(far, self._web.ties[walker][mover]):
                    return walker, spots[mover]
        return None, None

    def table(self):
        """A table of the reaches, as a text."""
        rows = [("", *self.walkers)]
        for walker in self.walkers:
            reaches = [str(self._web.reach(walker, other)) for other in self.walkers]
            rows.append((walker, *reaches))
        return "\n".join(["".join([field.rjust(FIELD) for field in row]) for row in rows])

    def __eq__(self, other):
        return isinstance(other, Party) and self._tree == other._tree and self._web == other._web

    def __repr__(self):
        return f"Party({len(self._web)} walkers, {len(self._tree)} places)"
