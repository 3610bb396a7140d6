"""Webs with slow answers about their reaches: each chain of ropes is tried."""

import itertools
import random

from towgrove.webs import Web

NAMES = ('p', 'q', 'r', 's', 'pq', 'zzzzzz')


def simple_chains(walkers, ropes, a, b):
    """Each tuple of different tied walkers from one to another, with the sum of its shortest ropes."""
    shortest = {}
    for one, other, length in ropes:
        for pair in ((one, other), (other, one)):
            shortest[pair] = min(length, shortest.get(pair, length))
    found = {}

    def go(chain, total):
        if chain[-1] == b:
            found[chain] = total
            return
        for walker in walkers:
            if walker not in chain and (chain[-1], walker) in shortest:
                go((*chain, walker), total + shortest[chain[-1], walker])

    go((a,), 0)
    return found


def slow_reach(walkers, ropes, a, b):
    """The reach as a number, or None."""
    return min(simple_chains(walkers, ropes, a, b).values(), default=None)


def slow_reaches(web):
    return {(a, b): slow_reach(web.walkers, web.ropes, a, b) for a in web.walkers for b in web.walkers}


def any_ropes(walkers, many, lengths, chance):
    ropes = []
    for _ in range(many if len(walkers) > 1 else 0):
        ropes.append((*chance.sample(walkers, 2), chance.choice(lengths)))
    return tuple(ropes)


def some_webs(seed=1, times=4):
    """Webs of each number of walkers, with no ropes up to fifteen, among them ropes of length 0 and equal ones."""
    chance = random.Random(seed)
    for many, ropes, lengths in itertools.product(range(1, 7), (0, 1, 2, 4, 6, 9, 15),
                                                  ((0,), (1,), (0, 1, 2), (1, 2, 3, 5), range(101))):
        for _ in range(times):
            walkers = tuple(chance.sample(NAMES, many))
            yield Web(walkers, any_ropes(walkers, ropes, list(lengths), chance))
