"""Sights with slow answers: each web with ropes up to some length is tried, with pulls that are done step by step."""

import itertools

from tests.ropes import NAMES, any_ropes, simple_chains, slow_reach
from tests.troops import Troop, any_land
from towgrove.sights import fitting, fitting_holds
from towgrove.webs import Web


def is_explained(troop, sight):
    """Whether a web explains a sight, found by doing the pull."""
    before, pull, after = sight
    return troop.strained(before) is None and troop.dragged(before, (pull,)) == after


class Scene:
    """A tree with walkers, and slow answers about sights of them."""

    def __init__(self, land, walkers):
        self.land, self.walkers = land, walkers
        self.pairs = list(itertools.combinations(walkers, 2))

    def troop(self, ropes):
        return Troop(self.land, Web(self.walkers, ropes))

    def all_troops(self):
        """A party for each choice of a rope, or none, for each two walkers; a longer rope ties nobody more than none."""
        longest = max(self.land.distance(*pair) for pair in itertools.product(self.land.places, repeat=2))
        found = []
        for lengths in itertools.product((*range(longest + 2), None), repeat=len(self.pairs)):
            found.append(self.troop(tuple((*pair, length) for pair, length in zip(self.pairs, lengths) if length is not None)))
        return found

    def odd(self, sight, walker):
        before, (pulled, place), after = sight
        at = self.walkers.index(walker)
        if walker == pulled and after[at] != place:
            return True
        return after[at] not in self.land.paths[before[at]][place]

    def first_odd(self, sights):
        for at, sight in enumerate(sights):
            for walker in self.walkers:
                if self.odd(sight, walker):
                    return at, walker
        return None

    def seen(self, sights, a, b):
        """The seen lengths of two walkers."""
        found = []
        for before, (pulled, place), after in sights:
            for one, other in ((a, b), (b, a)):
                at = self.walkers.index(one)
                if pulled == other and before[at] != after[at]:
                    found.append(self.land.distance(place, after[at]))
        return found

    def needed(self, sights, a, b):
        """The needed lengths of two walkers."""
        found = []
        for before, (pulled, place), after in sights:
            found.append(self.land.distance(before[self.walkers.index(a)], before[self.walkers.index(b)]))
            for one, other in ((a, b), (b, a)):
                if pulled == other:
                    found.append(self.land.distance(place, after[self.walkers.index(one)]))
        return found

    def bounds(self, sights):
        """A rope for each two walkers with a seen length, as long as the smallest one."""
        return tuple((a, b, min(self.seen(sights, a, b))) for a, b in self.pairs if self.seen(sights, a, b))

    def greatest(self, sights):
        """The greatest reaches that the seen lengths leave, None for a free one."""
        ropes = self.bounds(sights)
        return {(a, b): slow_reach(self.walkers, ropes, a, b) for a in self.walkers for b in self.walkers}

    def is_short(self, sights, chain):
        if chain.__class__ is not tuple or len(chain) < 2 or any(walker not in self.walkers for walker in chain):
            return False
        if len(set(chain)) < len(chain):
            return False
        total = simple_chains(self.walkers, self.bounds(sights), chain[0], chain[-1]).get(chain)
        return total is not None and any(total < length for length in self.needed(sights, chain[0], chain[-1]))

    def holds(self, sights, answer):
        """Whether an answer is a right one, point by point."""
        if answer.__class__ is not tuple or len(answer) not in (2, 3):
            return False
        if len(answer) == 3:
            word, at, walker = answer
            if word != 'odd' or at.__class__ is not int or not 0 <= at < len(sights) or walker not in self.walkers:
                return False
            return self.odd(sights[at], walker)
        if self.first_odd(sights) is not None:
            return False
        word, told = answer
        if word == 'short':
            return self.is_short(sights, told)
        return word == 'web' and told.__class__ is Web and self.is_greatest(sights, told)

    def is_greatest(self, sights, web):
        if web.walkers != self.walkers or len(web.ropes) > 15:
            return False
        troop = self.troop(web.ropes)
        return troop.reaches == self.greatest(sights) and all(is_explained(troop, sight) for sight in sights)

    def true_sights(self, troop, many, chance):
        """Sights of pulls of a party, some of them one after another."""
        found, standing = [], troop.any_legal(chance)
        for _ in range(many):
            pull = troop.any_pull(chance)
            after = troop.dragged(standing, (pull,), chance.choice)
            found.append((standing, pull, after))
            standing = after if chance.random() < 0.6 else troop.any_legal(chance)
        return found

    def changed(self, sight, chance):
        """The sight with one walker at another place, or with another pull."""
        before, (pulled, place), after = sight
        at, other = chance.randrange(len(self.walkers)), chance.choice(self.land.places)
        kind = chance.randrange(4)
        if kind == 0:
            return before[:at] + (other,) + before[at + 1:], (pulled, place), after
        if kind == 1:
            return before, (self.walkers[at], place), after
        if kind == 2:
            return before, (pulled, place), tuple(place if walker == pulled else there
                                                  for walker, there in zip(self.walkers, before))
        return before, (pulled, place), after[:at] + (other,) + after[at + 1:]

    def any_sights(self, many, chance):
        """Sights of one or two parties, some of them changed."""
        lengths = chance.choice(((0, 1), (1, 2), (0, 1, 2, 3)))
        troops = [self.troop(any_ropes(self.walkers, chance.randint(0, len(self.walkers)), lengths, chance))
                  for _ in range(chance.choice((1, 1, 2)))]
        sights = [sight for troop in troops for sight in self.true_sights(troop, many, chance)]
        chance.shuffle(sights)
        return tuple(self.changed(sight, chance) if chance.random() < 0.15 else sight for sight in sights[:many])


def any_scene(many, walkers, chance):
    return Scene(any_land(many, chance), tuple(chance.sample(NAMES, walkers)))


class SceneCase:
    """What the tests of sights check of each answer."""

    def check_answer(self, scene, sights):
        answer = fitting(scene.land.tree, scene.walkers, sights)
        self.assertIs(answer.__class__, tuple)
        self.assertTrue(scene.holds(sights, answer), (scene.land.edges, scene.walkers, sights, answer))
        self.assertIs(fitting_holds(scene.land.tree, scene.walkers, sights, answer), True)
        return answer
