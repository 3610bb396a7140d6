"""Camps: a party and a standing that changes over many deeds."""

from towgrove.errors import Broken, NoMatch


class Moment:
    """All that a camp keeps at one time. It never changes, so a camp goes back by having an earlier one again."""

    def __init__(self, stand, deeds, told):
        self.stand = stand
        # The standing before each deed that stands.
        self.deeds = deeds
        # The log: None, or a pair of the log before its last entry and this entry, so that no deed copies it.
        self.told = told


class Trial:
    """A block of deeds that a camp takes back when the block is left, unless they are kept."""

    def __init__(self, camp):
        self._camp = camp
        self._source = camp
        self._level = 0

    def keep(self):
        """Let the camp stay as it is when the block is left."""
        self._source = self._camp

    def __enter__(self):
        camp = self._camp
        self._source = camp.copied()
        self._level = camp.level
        camp.level = camp.level + 1
        return self

    def __exit__(self, kind, value, trace):
        camp = self._camp
        camp.level = self._level
        # A block that is kept has the camp itself as its source.
        camp.moment = self._source.moment


class Camp:
    """A party and a standing, with the deeds that led there."""

    def __init__(self, party, standing):
        party.check(standing)
        self._party = party
        self.moment = Moment(standing, (), None)
        self.level = 0

    @property
    def party(self):
        """The party."""
        return self._party

    @property
    def standing(self):
        """The standing."""
        return self.moment.stand

    @property
    def depth(self):
        """The number of blocks that are entered and not left."""
        return self.level

    def _note_deed(self, standing, entry):
        now = self.moment
        self.moment = Moment(standing, (*now.deeds, now.stand), (now.told, entry))

    def place_all(self, standing):
        """Set the standing, as a deed."""
        self._party.check(standing)
        self._note_deed(standing, ("set", standing))

    def pull(self, walker, place):
        """Do a pull; the walkers that have moved."""
        haul = self._party.pull(walker, place)
        before = self.moment.stand
        after = haul(before)
        self._note_deed(after, ("pull", walker, place))
        return tuple([mate for at, mate in enumerate(self._party.walkers) if before[at] != after[at]])

    def several(self, row, *, whole=True):
        """Do the pulls of a row, a deed each; their number. Raises Broken for the first that is none."""
        start = self.moment
        for at, pull in enumerate(row):
            if not self._party.is_pull(pull):
                if whole:
                    self.moment = start
                raise Broken(at)
            self.pull(pull[0], pull[1])
        return len(row)

    def undo(self):
        """Take back the last deed that stands; whether there was one."""
        now = self.moment
        if not now.deeds:
            return False
        self.moment = Moment(now.deeds[-1], now.deeds[:-1], (now.told, ("undo",)))
        return True

    def log(self):
        """A new list of what was done, in order."""
        entries = []
        told = self.moment.told
        while told is not None:
            told, entry = told
            entries.append(entry)
        return entries[::-1]

    def trial(self):
        """A trial of this camp, for a with statement."""
        return Trial(self)

    def in_trial(self, work):
        """Call a function with a trial, in the block of this trial; what it returned."""
        with self.trial() as trial:
            return work(trial)

    def supposed(self, row):
        """The standing that a row would lead to."""
        with self.trial():
            self.several(row)
            return self.moment.stand

    def tried(self, row, *, wish):
        """Do a row, but keep it only if it leads into a wish; whether it does."""
        with self.trial() as trial:
            self.several(row)
            if wish.party != self._party:
                raise NoMatch("party")
            if self.moment.stand not in wish:
                return False
            trial.keep()
            return True

    def nested(self, rows, *, kept=()):
        """Do rows in nested trials, some of them kept; the standing and the depth after each row."""
        found = []
        self._nest(rows, kept, found)
        return tuple(found)

    def _nest(self, rows, kept, found):
        at = len(found)
        if at == len(rows):
            return
        with self.trial() as trial:
            self._do_nested(rows[at], at)
            found.append((self.moment.stand, self.level))
            if at in kept:
                trial.keep()
            self._nest(rows, kept, found)

    def _do_nested(self, row, at):
        try:
            self.several(row)
        except Broken:
            raise Broken(at) from None

    def copied(self):
        """Another camp in the same state, in no block."""
        camp = Camp(self._party, self.moment.stand)
        camp.moment = self.moment
        return camp

    def __len__(self):
        return len(self.moment.deeds)

    def __eq__(self, other):
        return isinstance(other, Camp) and self._party == other._party and self.moment.stand == other.moment.stand

    def __repr__(self):
        return f"Camp({len(self._party.walkers)} walkers, {len(self)} deeds)"
