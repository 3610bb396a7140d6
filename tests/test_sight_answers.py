"""Answers about sights that are checked: `fitting_holds` of point 43, with 1, 2, 4, 41 and 42."""

import random
import unittest

from tests.kit import ANY_VALUES, Case
from tests.lands import Land
from tests.scenes import Scene, any_scene
from tests.troops import P, T, W
from towgrove.hauls import Haul
from towgrove.lengths import Length
from towgrove.sights import fitting, fitting_holds
from towgrove.webs import Web

LAND = Land(T.places, T.edges)
WALKERS = ('p', 'q', 'r')
FINE = ((('a', 'a', 'a'), ('p', 'e'), ('e', 'b', 'a')),)
ODD = (*FINE, (('a', 'a', 'a'), ('p', 'e'), ('d', 'b', 'a')))
SHORT = (*FINE, (('a', 'a', 'a'), ('q', 'd'), ('b', 'd', 'c')), (('a', 'a', 'a'), ('q', 'e'), ('c', 'e', 'a')))
SCENE = Scene(LAND, WALKERS)
GREATEST = Web(WALKERS, (('p', 'q', 2),))


def near_webs(web, chance):
    """The web itself and webs that are like it."""
    walkers, ropes = web.walkers, web.ropes
    yield web
    yield Web(walkers, ropes[::-1])
    yield Web(walkers, tuple((b, a, length) for a, b, length in ropes))
    for at, (a, b, length) in enumerate(ropes):
        yield Web(walkers, ropes[:at] + ropes[at + 1:])
        for other in (length + 1, max(length - 1, 0)):
            yield Web(walkers, ropes[:at] + ((a, b, other),) + ropes[at + 1:])
    if len(walkers) > 1:
        for _ in range(3):
            yield web.tied(*chance.sample(walkers, 2), chance.choice((0, 1, 2, 5, 39, 10 ** 6)))
        yield Web(walkers[::-1], ropes)
        yield web.only(walkers[:-1])
    yield web.only(walkers)


def near_chains(chain, walkers, chance):
    yield chain
    yield chain[::-1]
    yield chain[:-1]
    yield chain + chain[:1]
    yield chain + (chance.choice(walkers),)
    yield chain[:1] + (chance.choice(walkers),) + chain[1:]
    yield list(chain)
    for many in range(min(len(walkers), 4) + 1):
        yield tuple(chance.sample(walkers, many))


class Holds(Case):

    def check(self, scene, sights, answer):
        wanted = scene.holds(sights, answer)
        for given in (tuple(sights), list(sights)):
            self.assertIs(fitting_holds(scene.land.tree, scene.walkers, given, answer), wanted, (sights, answer))
        return wanted

    def near_answers(self, scene, sights, chance):
        answer = fitting(scene.land.tree, scene.walkers, sights)
        webs = [answer[1]] if answer[0] == 'web' else [scene.troop(scene.bounds(sights)).web]
        for web in webs:
            for other in near_webs(web, chance):
                yield 'web', other
        chain = answer[1] if answer[0] == 'short' else scene.walkers[:2]
        for other in near_chains(chain, scene.walkers, chance):
            yield 'short', other
        for at in range(-1, len(sights) + 1):
            for walker in scene.walkers:
                yield 'odd', at, walker

    def test_answers_that_are_changed(self):
        chance, seen = random.Random(1), {}
        for many, walkers in ((1, 1), (1, 3), (2, 2), (3, 2), (3, 3), (4, 4), (6, 3), (8, 5), (9, 6)):
            for _ in range(40):
                scene = any_scene(many, walkers, chance)
                sights = scene.any_sights(chance.randint(1, 6), chance)
                for answer in self.near_answers(scene, sights, chance):
                    wanted = self.check(scene, sights, answer)
                    seen[answer[0], wanted] = seen.get((answer[0], wanted), 0) + 1
        self.assertEqual(len(seen), 6)
        self.assertGreater(min(seen.values()), 20, seen)

    def test_any_value(self):
        for sights in (FINE, ODD, SHORT, ()):
            answer = fitting(T, WALKERS, sights)
            for value in (*ANY_VALUES, P, T, W, GREATEST, Length(2), Haul.still(P), (('p', 'q'),), [('p', 'q')], answer[-1]):
                for other in (value, (value,), ('web', value), ('short', value), ('odd', value), (value, answer[-1]),
                              ('short', (value, 'q')), ('short', ('p', value)), ('short', ('p', 'q', value)), ('odd', value, 'p'),
                              ('odd', 1, value), (value, 1, 'p'), ('odd', 1, 'p', value), ('web', answer[-1], value),
                              ('short', answer[-1], value), (value, value), (value, value, value), [value]):
                    self.check(SCENE, sights, other)

    def test_the_answer_itself(self):
        for sights, word in ((FINE, 'web'), (ODD, 'odd'), (SHORT, 'short'), ((), 'web')):
            answer = fitting(T, WALKERS, sights)
            self.assertEqual(answer[0], word)
            self.assertIs(fitting_holds(T, WALKERS, sights, answer), True)
            self.assertIs(fitting_holds(T, WALKERS, sights, list(answer)), False)
            self.assertIs(fitting_holds(T, WALKERS, sights, answer[:-1]), False)
            self.assertIs(fitting_holds(T, WALKERS, sights, (*answer, answer[-1])), False)
            self.assertIs(fitting_holds(T, WALKERS, sights, (word.upper(), *answer[1:])), False)
            self.assertIs(fitting_holds(T, WALKERS, sights, answer[1:]), False)

    def test_true_and_false_are_no_indexes(self):
        odd = ODD[1:] * 2
        for at in (0, 1):
            self.assertIs(fitting_holds(T, WALKERS, odd, ('odd', at, 'p')), True)
            self.assertIs(fitting_holds(T, WALKERS, odd, ('odd', bool(at), 'p')), False)

    def test_indexes_and_walkers_of_odd_sights(self):
        for at, walker, holds in ((1, 'p', True), (0, 'p', False), (1, 'q', False), (1, 'r', False), (2, 'p', False), (-1, 'p', False),
                                  (1, 'x', False), (1, None, False), ('1', 'p', False), (10 ** 30, 'p', False)):
            self.assertIs(fitting_holds(T, WALKERS, ODD, ('odd', at, walker)), holds, (at, walker))

    def test_no_other_answer_while_a_sight_is_odd(self):
        for sights in (ODD, (*SHORT, ODD[1]), (ODD[1], *SHORT)):
            for answer in (('web', GREATEST), ('short', ('p', 'q')), ('short', ('q', 'p')), fitting(T, WALKERS, SHORT)):
                self.assertIs(fitting_holds(T, WALKERS, sights, answer), False)

    def test_webs_that_are_longer_or_shorter_or_have_other_walkers(self):
        for web, holds in ((GREATEST, True), (Web(WALKERS, (('q', 'p', 2),)), True), (Web(WALKERS, (('q', 'p', 2), ('p', 'q', 9))), True),
                           (Web(WALKERS, (('p', 'q', 2), ('p', 'q', 10 ** 9))), True), (Web(WALKERS, (('p', 'q', 3),)), False),
                           (Web(WALKERS, (('p', 'q', 1),)), False), (Web.loose(*WALKERS), False), (Web(WALKERS[:2], (('p', 'q', 2),)), False),
                           (Web(WALKERS + ('s',), (('p', 'q', 2),)), False), (Web(('q', 'p', 'r'), (('p', 'q', 2),)), False),
                           (Web(('p', 'q', 's'), (('p', 'q', 2),)), False), (Web(WALKERS, (('p', 'q', 2), ('q', 'r', 40))), False),
                           (Web(WALKERS, (('p', 'q', 2), ('q', 'r', 1))), False)):
            self.assertIs(fitting_holds(T, WALKERS, FINE, ('web', web)), holds, web.ropes)

    def test_webs_with_more_than_fifteen_ropes(self):
        for many, holds in ((1, True), (15, True), (16, False), (40, False)):
            self.assertIs(fitting_holds(T, WALKERS, FINE, ('web', Web(WALKERS, (('p', 'q', 2),) * many))), holds, many)

    def test_a_web_that_has_the_bounds_as_ropes_but_does_not_explain(self):
        bounds = SCENE.troop(SCENE.bounds(SHORT)).web
        self.assertIs(fitting_holds(T, WALKERS, SHORT, ('web', bounds)), False)
        self.assertIs(fitting_holds(T, WALKERS, SHORT, ('web', Web.loose(*WALKERS))), False)

    def test_chains(self):
        sights = ((('b', 'b', 'a'), ('q', 'e'), ('c', 'e', 'b')), (('c', 'b', 'a'), ('r', 'd'), ('c', 'c', 'd')),
                  (('e', 'c', 'a'), ('p', 'e'), ('e', 'c', 'a')))
        for chain in (('p', 'q'), ('q', 'r'), ('p', 'r'), ('p', 'q', 'r'), ('r', 'q', 'p'), ('q', 'p', 'r'), ('p', 'p'), ('p', 'q', 'p'),
                      ('p',), (), ('p', 'x'), ('x', 'q'), ('p', None), ['p', 'q', 'r'], 'pqr', ('p', 'q', 'r', 'q')):
            self.check(SCENE, sights, ('short', chain))
        self.assertIs(fitting_holds(T, WALKERS, sights, ('short', ('p', 'q', 'r'))), True)

    def test_chains_that_sum_to_a_needed_length(self):
        drag = (('a', 'a'), ('p', 'e'), ('e', 'c'))
        for before, holds in ((('a', 'b'), False), (('b', 'c'), False), (('a', 'c'), True), (('d', 'e'), True), (('a', 'e'), True)):
            sights = (drag, (before, ('p', before[0]), before))
            self.assertIs(fitting_holds(T, ('p', 'q'), sights, ('short', ('p', 'q'))), holds)
            self.assertIs(fitting_holds(T, ('p', 'q'), sights, ('short', ('q', 'p'))), holds)

    def test_the_smallest_seen_length_counts(self):
        walkers = ('p', 'q')
        sights = ((('a', 'a'), ('p', 'e'), ('e', 'b')), (('a', 'a'), ('q', 'e'), ('c', 'e')))
        for order in (sights, sights[::-1]):
            for chain in (walkers, walkers[::-1]):
                self.assertIs(fitting_holds(T, walkers, order, ('short', chain)), True)
        for sight in sights:
            self.assertIs(fitting_holds(T, walkers, (sight,), ('short', walkers)), False)

    def test_without_sights_no_chain_is_short(self):
        for chain in ((), ('p',), ('p', 'q'), ('p', 'q', 'r')):
            self.assertIs(fitting_holds(T, WALKERS, (), ('short', chain)), False)
        self.assertIs(fitting_holds(T, WALKERS, (), ('odd', 0, 'p')), False)
        self.assertIs(fitting_holds(T, WALKERS, (), ('web', GREATEST)), False)

    def test_one_walker(self):
        for sights in ((), [(('a',), ('p', 'e'), ('e',))]):
            self.assertIs(fitting_holds(T, ('p',), sights, ('web', Web.loose('p'))), True)
            for answer in (('web', Web.loose('q')), ('short', ('p',)), ('short', ('p', 'p')), ('odd', 0, 'p')):
                self.assertIs(fitting_holds(T, ('p',), sights, answer), False)


if __name__ == '__main__':
    unittest.main()
