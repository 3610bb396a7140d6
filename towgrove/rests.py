"""Common rest: whether rows of pulls can all leave a standing alone."""

from towgrove.errors import NoStanding


def is_index(value, many):
    """Whether any value is the index of one of so many items."""
    return isinstance(value, int) and not isinstance(value, bool) and 0 <= value < many


def is_legal(party, value):
    """Whether any value is a legal standing."""
    try:
        return party.check(value)
    except NoStanding:
        return False


def first_apart(hauls):
    """The indexes of two hauls, the first one less, and a walker whose groves in them are apart, or None."""
    for other, haul in enumerate(hauls):
        for one, earlier in enumerate(hauls[:other]):
            walker = earlier.apart(haul)
            if walker is not None:
                return one, other, walker
    return None


def common_rest(party, rows):
    """A legal standing that the haul of each row leaves alone, or two rows that show that there is none."""
    hauls = [party.haul(row) for row in rows]
    found = first_apart(hauls)
    if found is not None:
        return ("apart", *found)
    standing = party.gathered(party.tree.places[0])
    # Groves that meet two by two have a common place, so no haul leads out of what the hauls before it lead into.
    for haul in hauls:
        standing = haul(standing)
    return "standing", standing


def are_apart(party, hauls, one, other, walker):
    """Whether these (any values) are the indexes of two hauls and a walker whose groves in them are apart."""
    if not is_index(one, len(hauls)) or not is_index(other, len(hauls)) or one >= other:
        return False
    if walker not in party.web:
        return False
    at = party.walkers.index(walker)
    return not hauls[one].masks[at] & hauls[other].masks[at]


def rest_holds(party, rows, answer):
    """Whether any value is a right answer of `common_rest`."""
    hauls = [party.haul(row) for row in rows]
    if not isinstance(answer, tuple):
        return False
    if len(answer) == 2 and answer[0] == "standing":
        return is_legal(party, answer[1]) and all([answer[1] in haul for haul in hauls])
    if len(answer) == 4 and answer[0] == "apart":
        return are_apart(party, hauls, answer[1], answer[2], answer[3])
    return False


def commute(party, row, other):
    """Whether both orders of two rows have the same haul."""
    return party.haul(row).apart(party.haul(other)) is None
