"""Reaches, chains and equal webs: points 7 and 25, with points 2 and 4."""

import itertools
import random
import unittest

from tests.kit import ANY_VALUES, Case
from tests.ropes import any_ropes, simple_chains, slow_reaches, some_webs
from towgrove.lengths import Length
from towgrove.trees import Tree
from towgrove.webs import Web

W = Web(('p', 'q', 'r'), (('p', 'q', 1), ('q', 'r', 2)))


class Reaches(Case):

    def test_each_reach(self):
        for web in some_webs():
            for (a, b), number in slow_reaches(web).items():
                found = web.reach(a, b)
                self.assertIs(found.__class__, Length)
                self.assertEqual(found.number, number)
                self.assertIs(found.is_free, number is None)

    def test_the_shortest_of_several_ropes(self):
        for lengths in itertools.permutations((4, 2, 7)):
            ropes = tuple(('p', 'q', length) if length % 2 else ('q', 'p', length) for length in lengths)
            self.assertEqual(Web(('p', 'q'), ropes).reach('p', 'q'), Length(2))

    def test_free_and_zero(self):
        web = Web(('p', 'q', 'r', 's'), (('p', 'q', 0), ('r', 's', 0), ('q', 'p', 3)))
        self.assertEqual(web.reach('p', 'q'), Length(0))
        self.assertEqual(web.reach('q', 's'), Length.free())
        self.assertEqual(web.reach('s', 'q'), Length.free())
        for walker in web.walkers:
            self.assertEqual(web.reach(walker, walker), Length(0))

    def test_a_long_chain(self):
        walkers = ('p', 'q', 'r', 's', 't', 'u')
        web = Web(walkers, tuple((a, b, 100) for a, b in zip(walkers, walkers[1:])))
        self.assertEqual(web.reach('u', 'p'), Length(500))
        self.assertEqual(web.chain('u', 'p'), walkers[::-1])

    def test_arguments_by_name(self):
        self.assertEqual((W.reach(b='r', a='q'), W.chain(b='r', a='p')), (Length(2), ('p', 'q', 'r')))


class Chains(Case):

    def test_each_chain(self):
        for web in some_webs(seed=2):
            reaches = slow_reaches(web)
            for a, b in itertools.product(web.walkers, repeat=2):
                found, all_chains = web.chain(a, b), simple_chains(web.walkers, web.ropes, a, b)
                if reaches[a, b] is None:
                    self.assertIsNone(found)
                else:
                    self.assertIs(found.__class__, tuple)
                    self.assertIn(found, all_chains)
                    self.assertEqual(all_chains[found], reaches[a, b])

    def test_one_and_the_same_walker(self):
        for web in (W, Web(('p',), ()), Web(('p', 'q'), (('p', 'q', 0),))):
            self.assertEqual(web.chain('p', 'p'), ('p',))

    def test_many_ropes_of_length_nothing(self):
        for many in range(2, 7):
            web = Web.complete(tuple('abcdef'[:many]), 0)
            for a, b in itertools.permutations(web.walkers, 2):
                found = web.chain(a, b)
                self.assertEqual((found[0], found[-1], len(set(found))), (a, b, len(found)))

    def test_a_long_way_round_that_is_shorter(self):
        web = Web(('p', 'q', 'r', 's'), (('p', 's', 9), ('p', 'q', 2), ('r', 'q', 3), ('r', 's', 3)))
        self.assertEqual((web.chain('p', 's'), web.reach('p', 's')), (('p', 'q', 'r', 's'), Length(8)))
        self.assertEqual(web.chain('s', 'p'), ('s', 'r', 'q', 'p'))


class Equality(Case):

    def test_the_same_reaches(self):
        for ropes, others in (
                ((), ()), ((('p', 'q', 1),), (('q', 'p', 1),)), ((('p', 'q', 1),), (('p', 'q', 1), ('q', 'p', 5))),
                ((('p', 'q', 1), ('q', 'r', 2)), (('q', 'r', 2), ('p', 'q', 1))),
                ((('p', 'q', 1), ('q', 'r', 2)), (('q', 'r', 2), ('p', 'q', 1), ('p', 'r', 3), ('r', 'p', 4))),
                ((('p', 'q', 0), ('q', 'r', 0)), (('p', 'r', 0), ('q', 'r', 0)))):
            one, other = Web(('p', 'q', 'r'), ropes), Web(('p', 'q', 'r'), others)
            self.assertTrue(one == other and other == one and not one != other)

    def test_other_reaches(self):
        for ropes, others in (
                ((), (('p', 'q', 1),)), ((('p', 'q', 1),), (('p', 'q', 2),)), ((('p', 'q', 1),), (('p', 'r', 1),)),
                ((('p', 'q', 1), ('q', 'r', 2)), (('q', 'r', 2), ('p', 'q', 1), ('p', 'r', 2))),
                ((('p', 'q', 0),), (('p', 'q', 1),))):
            one, other = Web(('p', 'q', 'r'), ropes), Web(('p', 'q', 'r'), others)
            self.assertTrue(one != other and other != one and not one == other)

    def test_other_walkers_or_another_order(self):
        webs = [Web(walkers, (('p', 'q', 1),)) for walkers in (('p', 'q'), ('q', 'p'), ('p', 'q', 'r'), ('r', 'p', 'q'))]
        webs += [Web.loose('p'), Web.loose('q'), Web.loose('p', 'q'), Web.loose('q', 'p')]
        for one, other in itertools.product(range(len(webs)), repeat=2):
            self.assertIs(webs[one] == webs[other], one == other)

    def test_webs_of_all_kinds(self):
        chance = random.Random(11)
        for _ in range(400):
            walkers = ('p', 'q', 'r')[:chance.randint(2, 3)]
            one, other = [Web(walkers, any_ropes(walkers, chance.randint(0, 4), (0, 1, 2), chance)) for _ in range(2)]
            self.assertIs(one == other, slow_reaches(one) == slow_reaches(other))
            self.assertIs(one != other, slow_reaches(one) != slow_reaches(other))

    def test_nothing_else(self):
        for value in (*ANY_VALUES, Tree(('p', 'q', 'r'), (('p', 'q'), ('q', 'r'))), Length(3), W.walkers, W.ropes,
                      (W.walkers, W.ropes), ['p', 'q', 'r']):
            self.assertIs(W == value, False)
            self.assertIs(W != value, True)
            self.assertIs(value == W, False)


class Document(Case):

    def test_the_example(self):
        self.assertEqual((str(W.reach('p', 'r')), W.chain('r', 'p'), W.only(('r', 'p')).ropes),
                         ('3', ('r', 'q', 'p'), (('p', 'r', 3),)))


if __name__ == '__main__':
    unittest.main()
