"""Trees whose places are numbered, so that a set of places is one integer."""


def lowest(mask):
    """The least spot in a mask that is not empty."""
    return (mask & -mask).bit_length() - 1


def ball_of(balls, radius):
    """The ball of a radius among those of all radiuses, the last one the whole tree; None is any distance."""
    if radius is None or radius >= len(balls):
        return balls[-1]
    return balls[radius]


class Plan:
    """The places of a tree as spots: numbers from 0 for the first place, the root, growing on each way from it.

    A set of places is a mask, an integer with a bit for each spot. Since the numbers grow, the nearest of some
    spots on the way from a spot to the root is the greatest of them, and the place of a grove that is nearest to
    the root is its least spot. Equal trees have the same numbers, so their masks can be compared.
    """

    def __init__(self, first, near):
        spots = {first: 0}
        above = [1]
        deep = [0]
        waiting = [first]
        while waiting:
            here = waiting.pop()
            line = above[spots[here]]
            far = deep[spots[here]] + 1
            for place in near[here]:
                if place not in spots:
                    spots[place] = len(above)
                    above.append(line | 1 << len(above))
                    deep.append(far)
                    waiting.append(place)
        # The neighbours of each place, and the places, in place order.
        self.near = near
        self.spots = spots
        # For each spot its place, the mask of the way to the root, both included, and its length.
        self.names = list(spots)
        self.above = above
        self.deep = deep

    def whole(self):
        """The mask of all places."""
        return (1 << len(self.above)) - 1

    def named(self, mask):
        """The places of a mask, in place order."""
        return tuple([place for place in self.near if mask >> self.spots[place] & 1])

    def fork(self, one, other):
        """The spot where the ways from two spots to the root come together."""
        return (self.above[one] & self.above[other]).bit_length() - 1

    def distance(self, one, other):
        """The number of edges between two spots."""
        return self.deep[one] + self.deep[other] - 2 * self.deep[self.fork(one, other)]

    def way(self, one, other):
        """The mask of the path between two spots."""
        return self.above[one] ^ self.above[other] | 1 << self.fork(one, other)

    def toward(self, here, goal):
        """The spot after one on the path to another; that spot itself if both are the same."""
        below = self.above[goal] >> here
        if not below & 1:
            return (self.above[here] ^ 1 << here).bit_length() - 1
        if below == 1:
            return here
        return here + lowest(below ^ 1)

    def median(self, one, other, third):
        """The spot that lies on all three paths between two of these."""
        # Two of the three forks are always the same, and the third one is the median.
        return self.fork(one, other) ^ self.fork(other, third) ^ self.fork(one, third)

    def gate(self, grove, spot):
        """The spot of a nonempty grove that is nearest to a spot."""
        met = self.above[spot] & grove
        if met:
            return met.bit_length() - 1
        return lowest(grove)

    def led(self, grove, other):
        """The grove to whose gates the gates in one nonempty grove and then in another lead."""
        if grove & other:
            return grove & other
        return 1 << self.gate(other, lowest(grove))

    def hull(self, grove, other):
        """The smallest grove that contains two groves."""
        if not grove or not other:
            return grove | other
        return grove | other | self.way(lowest(grove), lowest(other))

    def sources(self, grove, other):
        """The mask of the spots whose gate in the other, a nonempty grove, lies in the first one."""
        found = 0
        # Here the gates are found as in `gate`, but without a call for each spot.
        outside = grove >> lowest(other) & 1
        for spot, line in enumerate(self.above):
            met = line & other
            inside = grove >> (met.bit_length() - 1) & 1 if met else outside
            found = found | inside << spot
        return found

    def branch(self, at, away):
        """The mask of the places whose path to one end of an edge contains its other end."""
        if self.above[at] >> away & 1:
            return self.whole() ^ self.branch(away, at)
        found = 0
        for spot, line in enumerate(self.above):
            if line >> away & 1:
                found = found | 1 << spot
        return found

    def balls(self, centre):
        """The masks of the places at most 0, 1, 2 .. edges away from a place, up to the whole tree."""
        ball = 1 << self.spots[centre]
        found = [ball]
        ring = [centre]
        while True:
            further = []
            for here in ring:
                for place in self.near[here]:
                    bit = 1 << self.spots[place]
                    if not ball & bit:
                        ball = ball | bit
                        further.append(place)
            if not further:
                return found
            found.append(ball)
            ring = further
