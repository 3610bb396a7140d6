"""Parties that are made from other parties."""

from towgrove.errors import NoMatch
from towgrove.parties import Party
from towgrove.webs import MOST_WALKERS, Web


def beside(party, other):
    """The party with the walkers and ropes of both, on the same tree."""
    if party.tree != other.tree:
        raise NoMatch("tree")
    walkers = (*party.walkers, *other.walkers)
    if len(walkers) > MOST_WALKERS or any([walker in party.web for walker in other.walkers]):
        raise NoMatch("walkers")
    return Party(party.tree, Web(walkers, (*party.web.ropes, *other.web.ropes)))


def part(party, walkers):
    """The party of some of the walkers, tied as they are in the whole party."""
    return Party(party.tree, party.web.only(walkers))


def on_tree(party, tree):
    """The party with the same web on another tree."""
    return Party(tree, party.web)


def translated(party, places, walkers):
    """The party whose places and walkers have these names, given in order."""
    tree = party.tree.renamed(places)
    if len(walkers) != len(party.walkers):
        raise NoMatch("walkers")
    name_of = {walker: walkers[at] for at, walker in enumerate(party.walkers)}
    ropes = [(name_of[one], name_of[other], length) for one, other, length in party.web.ropes]
    return Party(tree, Web(tuple(walkers), tuple(ropes)))
