"""A slow camp: it copies all that it keeps, and does each pull by ropes that drag step by step."""

from tests.lands import Land
from tests.troops import P, T, Troop, TroopCase, W
from towgrove.camps import Camp

TROOP = Troop(Land(T.places, T.edges), W)
START = ('a', 'a', 'a')
ROW = (('p', 'e'), ('r', 'd'))
BAD = (('p', 'b'), ('p', 'x'))


class SlowCamp:

    def __init__(self, troop, standing):
        self.troop, self.standing = troop, standing
        self.deeds, self.entries, self.depth = [], [], 0

    def state(self):
        return self.standing, list(self.deeds), list(self.entries)

    def take(self, state):
        self.standing, self.deeds, self.entries = state[0], list(state[1]), list(state[2])

    def place_all(self, standing):
        self.deeds.append(self.standing)
        self.entries.append(('set', standing))
        self.standing = standing

    def pull(self, walker, place):
        before = self.standing
        self.deeds.append(before)
        self.entries.append(('pull', walker, place))
        self.standing = self.troop.dragged(before, ((walker, place),))
        return tuple(mate for mate, here, there in zip(self.troop.walkers, before, self.standing) if here != there)

    def undo(self):
        if not self.deeds:
            return False
        self.standing = self.deeds.pop()
        self.entries.append(('undo',))
        return True

    def copied(self):
        other = SlowCamp(self.troop, self.standing)
        other.take(self.state())
        return other


class CampCase(TroopCase):

    def check_camp(self, camp, slow):
        """Check all that a camp tells, and all that it would give back by undoing its deeds."""
        self.assertIs(camp.standing.__class__, tuple)
        self.assertEqual(camp.standing, slow.standing)
        self.assertEqual(len(camp), len(slow.deeds))
        self.assertEqual(camp.depth, slow.depth)
        log = camp.log()
        self.assertIs(log.__class__, list)
        self.assertEqual(log, slow.entries)
        many = len(camp.party.walkers)
        self.assertEqual(repr(camp), f'Camp({many} walkers, {len(slow.deeds)} deeds)')
        other = camp.copied()
        for standing in reversed(slow.deeds):
            self.assertIs(other.undo(), True)
            self.assertEqual(other.standing, standing)
        self.assertIs(other.undo(), False)
        self.assertEqual(camp.log(), log)

    def stays(self, camp, work, /, *values, **named):
        """Check that a call leaves a camp as it is, and return what it returned."""
        before = told(camp)
        found = work(*values, **named)
        self.assertEqual(told(camp), before)
        return found

    def refused_and_stays(self, camp, kind, kept, work, /, *values, **named):
        before = told(camp)
        self.refuses(kind, kept, work, *values, **named)
        self.assertEqual(told(camp), before)


def told(camp):
    """All that a camp tells, with the standings that undoing would give back."""
    other, back = camp.copied(), []
    while other.undo():
        back.append(other.standing)
    return camp.party, camp.standing, len(camp), camp.log(), camp.depth, repr(camp), back


def camp_with(*pulls):
    """A camp of the document's party behind some pulls."""
    camp = Camp(P, START)
    for pull in pulls:
        camp.pull(*pull)
    return camp
