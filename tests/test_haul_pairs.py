"""What two hauls are to each other: point 34, with points 2, 12 and 14."""

import itertools
import random
import unittest

from tests.test_hauls import any_members, haul_with
from tests.troops import EQUAL, OTHERS, P, T, TroopCase, small_troops, some_troops
from towgrove.errors import NoMatch
from towgrove.groves import Grove
from towgrove.hauls import Haul
from towgrove.shapes import Branch, Way, Whole


def pairs(seed):
    """Parties with the places of the groves of two hauls, many of them nearly equal."""
    chance = random.Random(seed)
    for troop in itertools.chain(small_troops(seed), some_troops(seed, times=1)):
        for _ in range(6):
            one = any_members(troop, chance)
            other = [places if chance.random() < 0.6 else troop.land.any_grove(chance, least=1) for places in one]
            yield troop, one, other
            yield troop, other, one
            yield troop, one, list(one)


class Pairs(TroopCase):

    def each_pair(self, seed):
        for troop, one, other in pairs(seed):
            yield troop, one, other, haul_with(troop.party, one), haul_with(troop.other_party(), other)

    def test_within(self):
        for _, one, other, first, second in self.each_pair(1):
            self.assertIs(first.within(second), all(set(x) <= set(y) for x, y in zip(one, other)))

    def test_apart(self):
        for troop, one, other, first, second in self.each_pair(2):
            apart = [walker for walker, x, y in zip(troop.walkers, one, other) if not set(x) & set(y)]
            self.assertEqual(first.apart(second), apart[0] if apart else None)

    def test_differs(self):
        for troop, one, other, first, second in self.each_pair(3):
            found = first.differs(second)
            if one == other:
                self.assertIsNone(found)
            else:
                self.assertIs(found.__class__, tuple)
                self.assertEqual((len(found), len(set(found))), (len(troop.walkers), 1))
                self.assertIn(found[0], troop.land.places)
                self.assertNotEqual(troop.gates(one, found), troop.gates(other, found))

    def test_sources(self):
        for troop, one, other, first, second in self.each_pair(4):
            found = first.sources(second)
            wanted = [troop.land.sources(x, y) for x, y in zip(one, other)]
            if () in wanted:
                self.assertIsNone(found)
            else:
                self.check_haul(found, troop.party, wanted)

    def test_sources_contain_just_what_is_sent_in(self):
        chance = random.Random(5)
        for troop in small_troops(seed=5):
            for _ in range(3):
                one, other = [haul_with(troop.party, any_members(troop, chance)) for _ in range(2)]
                found = one.sources(other)
                for standing in troop.standings():
                    self.assertIs(found is not None and standing in found, other(standing) in one)

    def test_arguments_by_name(self):
        one, other = P.pull('p', 'e'), P.haul_of(('r', 'd'), ('p', 'e'))
        self.assertEqual((other.within(other=one), one.within(other=other)), (True, False))
        self.assertEqual((one.apart(other=P.pull('q', 'a')), one.sources(other=P.pull('p', 'a'))), ('p', None))
        self.assertEqual(one.differs(other=one), None)

    def test_unequal_parties(self):
        for one, other in itertools.permutations((P, *OTHERS), 2):
            for work in (Haul.within, Haul.apart, Haul.differs, Haul.sources):
                self.refuses(NoMatch, {'word': 'party'}, work, Haul.still(one), Haul.still(other))
                self.refuses(NoMatch, {'word': 'party'}, work, one.pull('p', 'a'), other.pull('p', 'b'))

    def test_equal_parties_and_the_classes_of_shapes(self):
        one = Haul(P, (Way(T, 'e', 'e'), Whole(T), Branch(T, 'c', 'b')))
        other = Haul(EQUAL, (Grove(T, ('e', 'c')), Whole(EQUAL.tree), Grove(EQUAL.tree, ('b', 'a'))))
        self.assertEqual((one.within(other), other.within(one), one.apart(other)), (True, False, None))
        self.assertEqual(one.differs(other), ('c', 'c', 'c'))
        self.check_haul(one.sources(other), P, [('e',), T.places, T.places])
        self.check_haul(other.sources(one), EQUAL, [T.places, T.places, T.places])

    def test_nothing_changes(self):
        one, other = P.pull('p', 'e'), P.pull('q', 'b')
        before = [(haul.party, haul.groves, repr(haul)) for haul in (one, other)]
        first = one.within(other), one.apart(other), one.differs(other), one.sources(other), other.sources(one)
        again = one.within(other), one.apart(other), one.differs(other), one.sources(other), other.sources(one)
        self.assertEqual(first, again)
        self.assertEqual(before, [(haul.party, haul.groves, repr(haul)) for haul in (one, other)])


class Document(TroopCase):

    def test_the_example(self):
        self.assertEqual(P.pull('p', 'e').apart(P.pull('q', 'a')), 'p')


if __name__ == '__main__':
    unittest.main()
