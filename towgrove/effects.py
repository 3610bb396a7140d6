"""All effects: each haul that rows of a book have, with the first row that has it."""

from towgrove.errors import Broken
from towgrove.hauls import Haul, haul_of_masks, one_after_another
from towgrove.wishes import hauls_of_book


def effects(party, book):
    """Iterate over pairs of a row and its haul: each haul that rows of a book have, once."""
    pulls = [(pull, haul.masks) for pull, haul in zip(book, hauls_of_book(party, book))]
    seen = set()
    rows = [((), Haul.still(party).masks)]
    while rows:
        longer = []
        for row, masks in rows:
            # What follows a row that is not the first one with its haul follows the first one, too.
            if tuple(masks) in seen:
                continue
            seen.add(tuple(masks))
            yield row, haul_of_masks(party, masks)
            for pull, after in pulls:
                if pull not in row:
                    longer.append(((*row, pull), one_after_another(party.tree.plan, masks, after)))
        rows = longer


def effect_of(party, book, row):
    """The row that comes with the haul of a row of the book."""
    hauls_of_book(party, book)
    for at, pull in enumerate(row):
        if pull not in book:
            raise Broken(at)
    rows = {tuple(haul.masks): first for first, haul in effects(party, book)}
    return rows[tuple(party.haul(row).masks)]
