"""Rows of pulls."""

from towgrove.hauls import Haul, one_after_another


def shortened(row):
    """The row without each pull that comes again later."""
    return tuple([pull for at, pull in enumerate(row) if pull not in row[at + 1:]])


def masks_from_each(party, pulls):
    """For each pull, and then for the end, the masks of the haul of the rest of the row from there."""
    plan = party.tree.plan
    rests = [Haul.still(party).masks]
    for masks in reversed(pulls):
        rests.append(one_after_another(plan, masks, rests[-1]))
    return rests[::-1]


def counting(party, row):
    """The indexes of the pulls without which, one at a time, the row has another haul."""
    pulls = party.row_masks(row)
    plan = party.tree.plan
    rests = masks_from_each(party, pulls)
    done = Haul.still(party).masks
    found = []
    for at, masks in enumerate(pulls):
        if one_after_another(plan, done, rests[at + 1]) != rests[0]:
            found.append(at)
        done = one_after_another(plan, done, masks)
    return tuple(found)


def trimmed(party, row):
    """The row after each pull, from the first to the last, is left out if the haul stays the same."""
    pulls = party.row_masks(row)
    plan = party.tree.plan
    rests = masks_from_each(party, pulls)
    done = Haul.still(party).masks
    kept = []
    for at, masks in enumerate(pulls):
        if one_after_another(plan, done, rests[at + 1]) != rests[0]:
            kept.append(row[at])
            done = one_after_another(plan, done, masks)
    return tuple(kept)


def parting(party, row, other):
    """A legal standing from which two rows lead to different ones, or None."""
    return party.haul(row).differs(party.haul(other))
