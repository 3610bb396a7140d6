"""Webs made from webs: point 26, with points 2, 4 and 14."""

import itertools
import random
import unittest

from tests.ropes import any_ropes, slow_reaches, some_webs
from tests.test_web_building import WebCase
from towgrove.errors import NoMatch, NoWalker
from towgrove.webs import Web

ROPES = (('p', 'q', 1), ('q', 'r', 2))
W = Web(('p', 'q', 'r'), ROPES)
STRANGERS = ('x', '', 'P', 'p ', 'pq', '\n')


class Unchanged(WebCase):

    def tearDown(self):
        self.same_web(W, ('p', 'q', 'r'), ROPES)
        self.assertEqual([W.reach('p', 'r').number, W.reach('p', 'q').number, W.chain('p', 'r')], [3, 1, ('p', 'q', 'r')])


class Tied(Unchanged):

    def test_one_more_rope_at_the_end(self):
        for web in some_webs(seed=3, times=1):
            for a, b in itertools.permutations(web.walkers, 2):
                for length in (0, 3, 100):
                    found = web.tied(a, b, length)
                    self.same_web(found, web.walkers, web.ropes + ((a, b, length),))
                    self.assertEqual(found, Web(web.walkers, web.ropes + ((a, b, length),)))

    def test_the_new_rope_counts(self):
        self.assertEqual(W.tied('r', 'p', 2).reach('p', 'r').number, 2)
        self.assertEqual(W.tied('r', 'p', 4), W)
        self.same_web(W.tied(length=2, b='p', a='r'), W.walkers, ROPES + (('r', 'p', 2),))

    def test_errors(self):
        for x, y in itertools.product(STRANGERS, repeat=2):
            self.refuses(NoWalker, {'walker': x}, W.tied, x, y, 1)
        for x, known in itertools.product(STRANGERS, W.walkers):
            self.refuses(NoWalker, {'walker': x}, W.tied, x, known, 1)
            self.refuses(NoWalker, {'walker': x}, W.tied, known, x, 1)
        for walker in W.walkers:
            self.refuses(NoMatch, {'word': 'walkers'}, W.tied, walker, walker, 1)


class Loosened(Unchanged):

    def test_the_ropes_of_two_are_left_out(self):
        for web in some_webs(seed=4, times=1):
            for a, b in itertools.product(web.walkers, repeat=2):
                left = tuple(rope for rope in web.ropes if {rope[0], rope[1]} != {a, b})
                self.same_web(web.loosened(a, b), web.walkers, left)

    def test_both_orders_of_the_ends(self):
        web = Web(('p', 'q', 'r'), (('p', 'q', 1), ('q', 'r', 2), ('q', 'p', 3), ('p', 'r', 9)))
        for a, b in (('p', 'q'), ('q', 'p')):
            found = web.loosened(b=b, a=a)
            self.same_web(found, web.walkers, (('q', 'r', 2), ('p', 'r', 9)))
            self.assertEqual(found.reach('p', 'q').number, 11)
        self.same_web(W.loosened('p', 'r'), W.walkers, ROPES)
        self.same_web(W.loosened('q', 'q'), W.walkers, ROPES)


class Only(Unchanged):

    def test_each_choice_of_walkers(self):
        chance = random.Random(12)
        for web in some_webs(seed=5, times=1):
            reaches = slow_reaches(web)
            for many in range(1, len(web) + 1):
                chosen = chance.sample(web.walkers, many)
                kept = tuple(walker for walker in web.walkers if walker in chosen)
                ropes = tuple((a, b, reaches[a, b]) for a, b in itertools.combinations(kept, 2)
                              if reaches[a, b] is not None)
                for given in (tuple(chosen), chosen):
                    found = web.only(given)
                    self.same_web(found, kept, ropes)
                    self.assertEqual(slow_reaches(found), {pair: reaches[pair] for pair in slow_reaches(found)})
                self.assertEqual(len(chosen), many)

    def test_all_walkers_keep_their_reaches(self):
        for web in some_webs(seed=6, times=1):
            self.assertEqual(web.only(web.walkers), web)

    def test_the_argument_does_not_change(self):
        given = ['r', 'p']
        web = W.only(walkers=given)
        given.append('q')
        self.same_web(web, ('p', 'r'), (('p', 'r', 3),))
        self.assertEqual(given, ['r', 'p', 'q'])

    def test_errors(self):
        for name in STRANGERS:
            for given in ((name,), ('p', name), (name, 'p'), ('p', 'p', name), (name, 'zz', 'p', 'p'), ('q', name, 'zz')):
                self.refuses(NoWalker, {'walker': name}, W.only, given)
                self.refuses(NoWalker, {'walker': name}, W.only, list(given))
        for given in ((), [], ('p', 'p'), ['p', 'q', 'p'], ('r', 'q', 'p', 'r')):
            self.refuses(NoMatch, {'word': 'walkers'}, W.only, given)


class Tighter(Unchanged):

    def test_each_pair_of_webs(self):
        chance = random.Random(13)
        seen = {True: 0, False: 0}
        for _ in range(600):
            walkers = ('p', 'q', 'r', 's')[:chance.randint(1, 4)]
            one, other = [Web(walkers, any_ropes(walkers, chance.randint(0, 5), (0, 1, 2), chance)) for _ in range(2)]
            reaches, others = slow_reaches(one), slow_reaches(other)
            wanted = all(others[pair] is None or reaches[pair] is not None and reaches[pair] <= others[pair]
                         for pair in reaches)
            self.assertIs(one.tighter(other), wanted)
            seen[wanted] += 1
        self.assertGreater(min(seen.values()), 100)

    def test_equal_and_free_reaches(self):
        self.assertIs(W.tighter(W), True)
        self.assertIs(W.tighter(other=Web.loose('p', 'q', 'r')), True)
        self.assertIs(Web.loose('p', 'q', 'r').tighter(W), False)
        self.assertIs(W.tighter(Web(W.walkers, ROPES[::-1] + (('p', 'r', 3),))), True)
        self.assertIs(W.tighter(Web(W.walkers, ROPES + (('p', 'r', 2),))), False)
        self.assertIs(Web(W.walkers, ROPES + (('p', 'r', 2),)).tighter(W), True)

    def test_other_walkers(self):
        for walkers in (('p', 'q'), ('q', 'p', 'r'), ('p', 'q', 's'), ('p', 'q', 'r', 's'), ('r',)):
            self.refuses(NoMatch, {'word': 'walkers'}, W.tighter, Web.loose(*walkers))
            self.refuses(NoMatch, {'word': 'walkers'}, Web.loose(*walkers).tighter, W)


if __name__ == '__main__':
    unittest.main()
