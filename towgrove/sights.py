"""Sights: which ropes explain the pulls that were observed."""

from towgrove.errors import Unexplained
from towgrove.lengths import Length
from towgrove.rests import is_index
from towgrove.webs import Web, is_less, pairs

MOST_ROPES = 15


def is_odd(tree, walkers, sight, walker):
    """Whether a sight is odd at a walker."""
    before, (pulled, place), after = sight
    at = walkers.index(walker)
    if walker == pulled and after[at] != place:
        return True
    return tree.median(before[at], place, after[at]) != after[at]


def first_odd(tree, walkers, sights):
    """The index of a sight and a walker at which it is odd, or None."""
    for at, sight in enumerate(sights):
        for walker in walkers:
            if is_odd(tree, walkers, sight, walker):
                return at, walker
    return None


def seen_lengths(tree, walkers, sights):
    """The seen lengths, each as two walkers and the length; no reach of these two is greater."""
    found = []
    for before, (pulled, place), after in sights:
        for at, walker in enumerate(walkers):
            if walker != pulled and before[at] != after[at]:
                found.append((pulled, walker, tree.distance(place, after[at])))
    return tuple(found)


def needed_lengths(tree, walkers, sights):
    """The needed lengths, each as two walkers and the length; no reach of these two is less."""
    found = []
    for before, (pulled, place), after in sights:
        spot = {walker: before[at] for at, walker in enumerate(walkers)}
        for one, other in pairs(walkers):
            found.append((one, other, tree.distance(spot[one], spot[other])))
        for at, walker in enumerate(walkers):
            if walker != pulled:
                found.append((pulled, walker, tree.distance(place, after[at])))
    return found


def first_short(web, needed):
    """Two walkers that the web ties more closely than a needed length allows, or None."""
    for one, other, length in needed:
        if is_less(web.reaches[one][other], length):
            return one, other
    return None


def fitting(tree, walkers, sights):
    """The web with the greatest reaches that explains all sights, or what shows that no web does."""
    odd = first_odd(tree, walkers, sights)
    if odd is not None:
        return ("odd", *odd)
    # A reach is at most each seen length, and no web with these bounds has greater reaches than their ropes give.
    web = Web(walkers, seen_lengths(tree, walkers, sights))
    short = first_short(web, needed_lengths(tree, walkers, sights))
    if short is not None:
        return "short", web.chain(short[0], short[1])
    return "web", web.only(walkers)


def is_short(web, needed, chain):
    """Whether any value is a chain of seen lengths that sum to less than a needed length of its ends."""
    if not isinstance(chain, tuple) or len(chain) < 2:
        return False
    if not all([walker in web and walker not in chain[:at] for at, walker in enumerate(chain)]):
        return False
    ties = [web.ties[one][other] for one, other in zip(chain, chain[1:])]
    if None in ties:
        return False
    ends = ((chain[0], chain[-1]), (chain[-1], chain[0]))
    return any([(one, other) in ends and sum(ties) < length for one, other, length in needed])


def fitting_holds(tree, walkers, sights, answer):
    """Whether any value is a right answer of `fitting`."""
    if not isinstance(answer, tuple) or not answer:
        return False
    word, *told = answer
    if word == "odd" and len(told) == 2:
        at, walker = told
        return is_index(at, len(sights)) and walker in walkers and is_odd(tree, walkers, sights[at], walker)
    if len(told) != 1 or first_odd(tree, walkers, sights) is not None:
        return False
    web = Web(walkers, seen_lengths(tree, walkers, sights))
    needed = needed_lengths(tree, walkers, sights)
    if word == "short":
        return is_short(web, needed, told[0])
    if word != "web" or told[0] != web or first_short(web, needed) is not None:
        return False
    return len(told[0].ropes) <= MOST_ROPES


def least_reach(web, needed, a, b):
    """The least reach of two walkers, given the web with the greatest reaches and the needed lengths."""
    least = 0
    for one, other, length in needed:
        for near, far in ((one, other), (other, one)):
            first, second = web.reaches[a][near], web.reaches[b][far]
            # A chain over these two would be shorter than the needed length if their reach were less than the rest.
            if first is not None and second is not None and length - first - second > least:
                least = length - first - second
    return least


def spans(tree, walkers, sights):
    """The least and the greatest reach of each two walkers in the webs that explain all sights."""
    answer = fitting(tree, walkers, sights)
    if answer[0] != "web":
        raise Unexplained()
    web = answer[1]
    needed = needed_lengths(tree, walkers, sights)
    return tuple([(a, b, Length(least_reach(web, needed, a, b)), web.reach(a, b)) for a, b in pairs(walkers)])
