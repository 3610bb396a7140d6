"""What a haul is and does: points 11, 32 and 33, with points 1, 2, 12 and 14."""

import itertools
import operator
import random
import unittest

from tests.kit import ANY_VALUES
from tests.troops import EQUAL, OTHERS, P, T, TroopCase, small_troops, some_troops
from towgrove.errors import NoMatch, NoStanding
from towgrove.groves import Grove
from towgrove.hauls import Haul
from towgrove.lengths import Length
from towgrove.parties import Party
from towgrove.shapes import Ball, Branch, Way, Whole
from towgrove.trees import Tree
from towgrove.webs import Web

SHAPES = (Way(T, 'e', 'e'), Whole(T), Branch(T, 'c', 'b'))


def any_members(troop, chance):
    return [troop.land.any_grove(chance, least=1) for _ in troop.walkers]


def haul_with(party, members):
    return Haul(party, [Grove(party.tree, places) for places in members])


class Making(TroopCase):

    def test_groves_in_tuples_and_lists(self):
        chance = random.Random(1)
        for troop in some_troops():
            members = any_members(troop, chance)
            groves = tuple(Grove(troop.land.tree, places) for places in members)
            for given in (groves, list(groves)):
                haul = Haul(troop.party, given)
                self.check_haul(haul, troop.party, members)
                self.check_haul(Haul(groves=given, party=troop.party), troop.party, members)

    def test_groves_on_equal_trees(self):
        chance = random.Random(2)
        for troop in some_troops(seed=2):
            members = any_members(troop, chance)
            other = troop.other_party()
            mixed = [Grove(chance.choice((troop.land.tree, other.tree)), places) for places in members]
            haul = Haul(troop.party, mixed)
            self.check_haul(haul, troop.party, members)
            self.assertEqual(haul, haul_with(troop.party, members))

    def test_groves_of_the_classes_of_shapes(self):
        haul = Haul(P, SHAPES)
        self.check_haul(haul, P, [('e',), T.places, ('a', 'b')])
        self.assertEqual(haul(('a', 'd', 'd')), ('e', 'd', 'b'))
        self.assertEqual(haul, haul_with(P, [('e',), T.places, ('a', 'b')]))
        self.assertEqual(haul.groves, SHAPES)

    def test_more_or_fewer_groves_than_walkers(self):
        other = Whole(Tree.in_row(*T.places))
        for many in (0, 1, 2, 4, 5):
            for grove in (Whole(T), Grove(T, ()), other):
                self.refuses(NoMatch, {'word': 'walkers'}, Haul, P, (grove,) * many)
                self.refuses(NoMatch, {'word': 'walkers'}, Haul, P, [grove] * many)

    def test_other_trees_come_before_empty_groves(self):
        strange, empty = Whole(Tree.in_row(*T.places)), Grove(T, ())
        good = Whole(T)
        for groves in itertools.product((good, strange, empty), repeat=3):
            word = 'tree' if strange in groves else 'empty' if empty in groves else None
            if word is not None:
                self.refuses(NoMatch, {'word': word}, Haul, P, groves)
        self.refuses(NoMatch, {'word': 'tree'}, Haul, P, (empty, good, Grove(Tree.in_row('a', 'b'), ())))

    def test_a_list_that_is_changed_later(self):
        given = list(SHAPES)
        haul = Haul(P, given)
        given[0] = Whole(T)
        given.pop()
        self.check_haul(haul, P, [('e',), T.places, ('a', 'b')])
        self.assertEqual(haul(('a', 'd', 'd')), ('e', 'd', 'b'))

    def test_still(self):
        for troop in some_troops(seed=3, times=1):
            haul = Haul.still(troop.party)
            self.check_haul(haul, troop.party, [troop.land.places] * len(troop.walkers))
            self.assertIs(bool(haul), False)
        self.assertEqual(Haul.still(party=P), Haul(P, (Whole(T),) * 3))

    def test_properties_cannot_be_assigned(self):
        for name in ('party', 'groves', 'forgotten'):
            with self.assertRaises(AttributeError):
                setattr(Haul.still(P), name, None)

    def test_forgotten(self):
        chance = random.Random(3)
        for troop in some_troops(seed=4):
            members = any_members(troop, chance)
            found = haul_with(troop.party, members).forgotten
            self.assertIs(found.__class__, tuple)
            self.assertEqual(found, tuple(name for name, places in zip(troop.walkers, members) if len(places) == 1))

    def test_repr(self):
        self.assertEqual(repr(Haul(P, SHAPES)), 'Haul(1, 5, 2)')
        self.assertEqual(repr(Haul.still(Party(Tree(('a',), ()), Web.loose('p')))), 'Haul(1)')


class Equality(TroopCase):

    def test_the_same_groves(self):
        chance = random.Random(5)
        for troop in small_troops(seed=5):
            lists = [any_members(troop, chance) for _ in range(6)]
            for one, other in itertools.product(lists, repeat=2):
                for party in (troop.party, troop.other_party()):
                    self.assertIs(haul_with(troop.party, one) == haul_with(party, other), one == other)
                    self.assertIs(haul_with(troop.party, one) != haul_with(party, other), one != other)

    def test_parties_that_differ(self):
        parties = (P, *OTHERS)
        for one, other in itertools.product(parties, repeat=2):
            same = one is other
            self.assertIs(Haul.still(one) == Haul.still(other), same)
            self.assertIs(one.haul_of(('p', 'a'), ('q', 'b')) == other.haul_of(('p', 'a'), ('q', 'b')), same)
            self.assertIs(haul_with(one, [('a',)] * len(one.walkers)) == haul_with(other, [('a',)] * len(other.walkers)),
                          same)
        self.assertTrue(Haul.still(P) == Haul.still(EQUAL))

    def test_nothing_else(self):
        for value in (*ANY_VALUES, P, T, SHAPES, Whole(T), Length(1)):
            self.assertIs(Haul(P, SHAPES) == value, False)
            self.assertIs(Haul(P, SHAPES) != value, True)
            self.assertIs(value == Haul(P, SHAPES), False)


class Calling(TroopCase):

    def test_each_standing_legal_or_not(self):
        chance = random.Random(6)
        for troop in small_troops(seed=6):
            for _ in range(3):
                members = any_members(troop, chance)
                haul = haul_with(troop.party, members)
                for standing in troop.standings():
                    found = haul(standing)
                    self.assertIs(found.__class__, tuple)
                    self.assertEqual(found, troop.gates(members, standing))
                    self.assertIs(standing in haul, found == standing)
                    self.assertIs(found in haul, True)

    def test_large_parties(self):
        chance = random.Random(7)
        for troop in some_troops(seed=7):
            members, standing = any_members(troop, chance), troop.any_standing(chance)
            haul = haul_with(troop.party, members)
            self.assertEqual(haul(standing), troop.gates(members, standing))
            self.assertIs(standing in haul, troop.gates(members, standing) == standing)

    def test_values_that_are_no_standings(self):
        haul = Haul(P, SHAPES)
        for value in (*ANY_VALUES, P, T, haul, Length(1), ('a', 'b', haul), ['e', 'a', 'a'], ('e', 'a', 'a', 'a')):
            self.assertIs(value in haul, False)
            self.assertIs(value in Haul.still(P), value == ('a', 'b', 'c'))
            if value != ('a', 'b', 'c'):
                self.refuses(NoStanding, {'word': 'form', 'at': -1}, haul, value)
        self.assertIs(('e', 'a', 'a') in haul, True)
        self.assertIs(('e', 'a', None) in haul, False)
        self.assertIs(('e', 'x', 'a') in haul, False)

    def test_errors(self):
        haul = Haul(P, SHAPES)
        self.refuses(NoStanding, {'word': 'place', 'at': 1}, haul, ('a', 'x', 'y'))
        self.refuses(NoStanding, {'word': 'place', 'at': 2}, haul, standing=('a', 'e', ''))
        self.refuses(NoStanding, {'word': 'form', 'at': -1}, haul, ('x', 'y'))
        self.refuses(NoStanding, {'word': 'form', 'at': -1}, haul, ('x', 'y', True))
        self.assertEqual(haul(standing=('a', 'e', 'd')), ('e', 'e', 'b'))

    def test_bool(self):
        chance = random.Random(8)
        for troop in some_troops(seed=8):
            for _ in range(4):
                members = any_members(troop, chance)
                self.assertIs(bool(haul_with(troop.party, members)),
                              any(places != troop.land.places for places in members))
        self.assertIs(bool(Haul(P, (Whole(T), Whole(T), Ball(T, 'a', 2)))), True)
        self.assertIs(bool(Haul(P, (Whole(T), Ball(T, 'c', 2), Grove(EQUAL.tree, T.places)))), False)


class OneAfterAnother(TroopCase):

    def test_groves_and_standings(self):
        chance = random.Random(9)
        for troop in small_troops(seed=9):
            for _ in range(4):
                one, other = any_members(troop, chance), any_members(troop, chance)
                first, second = haul_with(troop.party, one), haul_with(troop.party, other)
                both = first >> second
                self.check_haul(both, troop.party, [troop.land.led(*pair) for pair in zip(one, other)])
                for standing in troop.standings():
                    self.assertEqual(both(standing), second(first(standing)))

    def test_large_parties(self):
        chance = random.Random(10)
        for troop in some_troops(seed=10):
            one, other = any_members(troop, chance), any_members(troop, chance)
            both = haul_with(troop.party, one) >> haul_with(troop.party, other)
            self.check_haul(both, troop.party, [troop.land.led(*pair) for pair in zip(one, other)])

    def test_the_result_has_the_first_of_equal_parties(self):
        for one, other in ((P, EQUAL), (EQUAL, P)):
            found = one.pull('p', 'e') >> other.pull('r', 'd')
            self.check_haul(found, one, [('e',), ('c', 'e'), ('d',)])

    def test_still_hauls_change_nothing(self):
        chance = random.Random(11)
        for troop in some_troops(seed=11, times=1):
            haul = haul_with(troop.party, any_members(troop, chance))
            still = Haul.still(troop.party)
            self.assertTrue(still >> haul == haul == haul >> still == haul >> haul)

    def test_unequal_parties(self):
        for one, other in itertools.permutations((P, *OTHERS), 2):
            self.refuses(NoMatch, {'word': 'party'}, operator.rshift, Haul.still(one), Haul.still(other))
            self.refuses(NoMatch, {'word': 'party'}, operator.rshift, one.pull('p', 'a'), other.pull('p', 'a'))

    def test_nothing_changes(self):
        one, other = Haul(P, SHAPES), P.pull('q', 'd')
        before = one.groves, other.groves, repr(one), repr(other)
        self.assertEqual(one >> other, one >> other)
        self.assertEqual((one.groves, other.groves, repr(one), repr(other)), before)


class Document(TroopCase):

    def test_the_examples(self):
        h, k = P.pull('p', 'e'), P.pull('r', 'd')
        self.assertEqual((repr(h >> k), h >> k == k >> h, h.apart(P.pull('q', 'a'))), ('Haul(1, 2, 1)', True, 'p'))
        self.assertEqual(h.forgotten, ('p',))
        self.assertIs(h.party, P)


if __name__ == '__main__':
    unittest.main()
