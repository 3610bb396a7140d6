"""Wishes: whether the pulls of a book can bring a standing into a haul."""

from towgrove.errors import Broken, NoMatch
from towgrove.hauls import Haul


def hauls_of_book(party, book):
    """The haul of each pull of a book; raises Broken for what is no pull or comes twice."""
    for at, pull in enumerate(book):
        if not party.is_pull(pull) or pull in book[:at]:
            raise Broken(at)
    return [party.pull(walker, place) for walker, place in book]


def check_wish(party, standing, wish):
    party.check(standing)
    if wish.party != party:
        raise NoMatch("party")


def wider(lot, hauls, pulls):
    """The first of these pulls that leads into a lot from outside, and all from where it does, or None twice."""
    for pull in pulls:
        sources = lot.sources(hauls[pull])
        if sources is not None and sources != lot:
            return pull, sources
    return None, None


def lead_to(party, book, standing, wish):
    """A row of the book that leads from a standing into a wish, or a lot that shows that there is none."""
    hauls = hauls_of_book(party, book)
    check_wish(party, standing, wish)
    row = []
    lot = wish
    unused = list(range(len(book)))
    while standing not in lot:
        pull, sources = wider(lot, hauls, unused)
        if sources is None:
            return "lot", lot
        # An earlier one of two equal pulls of a row changes nothing, so no pull is asked again.
        unused.remove(pull)
        row.append(book[pull])
        lot = sources
    return "row", tuple(row[::-1])


def is_row_of(book, value):
    """Whether any value is a tuple of pulls of a book, none twice."""
    if not isinstance(value, tuple):
        return False
    return all([pull in book and pull not in value[:at] for at, pull in enumerate(value)])


def is_closed(lot, hauls):
    """Whether no pull leads into a lot from outside."""
    return all([lot.apart(haul) is not None or lot.sources(haul) == lot for haul in hauls])


def lead_holds(party, book, standing, wish, answer):
    """Whether any value is a right answer of `lead_to`."""
    hauls = hauls_of_book(party, book)
    check_wish(party, standing, wish)
    if not isinstance(answer, tuple) or len(answer) != 2:
        return False
    word, found = answer
    if word == "row":
        return is_row_of(book, found) and party.haul(found)(standing) in wish
    if word != "lot" or not isinstance(found, Haul) or found.party != party:
        return False
    return wish.within(found) and standing not in found and is_closed(found, hauls)
