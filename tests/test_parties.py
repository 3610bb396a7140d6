"""What a party is and which values are its standings: points 8, 27, 28 and 31, with points 1, 2 and 14."""

import itertools
import random
import unittest

from tests.kit import ANY_VALUES, nested
from tests.troops import EQUAL, OTHERS, P, T, W, Troop, TroopCase, small_troops, some_troops
from towgrove.errors import NoPlace, NoStanding
from towgrove.groves import Grove
from towgrove.lengths import Length
from towgrove.parties import Party
from towgrove.trees import Tree
from towgrove.webs import Web


class Parts(TroopCase):

    def test_properties(self):
        for troop in some_troops(times=1):
            party = troop.party
            self.assertIs(party.tree, troop.land.tree)
            self.assertIs(party.web, troop.web)
            self.assertIs(party.walkers.__class__, tuple)
            self.assertEqual(party.walkers, troop.walkers)
            self.assertEqual(repr(party), f'Party({len(troop.walkers)} walkers, {len(troop.land.places)} places)')

    def test_arguments_by_name(self):
        party = Party(web=W, tree=T)
        self.assertEqual((party.tree, party.web, party), (T, W, P))
        self.assertEqual(repr(Party(Tree(('a',), ()), Web.loose('p'))), 'Party(1 walkers, 1 places)')

    def test_properties_cannot_be_assigned(self):
        for name in ('tree', 'web', 'walkers'):
            with self.assertRaises(AttributeError):
                setattr(P, name, None)

    def test_gathered(self):
        for troop in some_troops(times=1):
            for place in troop.land.places:
                found = troop.party.gathered(place)
                self.assertIs(found.__class__, tuple)
                self.assertEqual(found, tuple(place for _ in troop.walkers))
                self.assertIs(troop.party.check(found), True)
        self.assertEqual(P.gathered(place='d'), ('d', 'd', 'd'))
        for name in ('x', '', 'A', 'a ', 'p', '\n'):
            self.refuses(NoPlace, {'place': name}, P.gathered, name)


class Equality(TroopCase):

    def test_equal_parties(self):
        self.assertTrue(P == EQUAL and EQUAL == P and not P != EQUAL and P == Party(T, W))
        for troop in some_troops(times=1):
            other = troop.other_party()
            self.assertTrue(troop.party == other and other == troop.party and not troop.party != other)

    def test_parties_that_differ(self):
        for one, other in itertools.permutations((P, *OTHERS), 2):
            self.assertIs(one == other, False)
            self.assertIs(one != other, True)

    def test_nothing_else(self):
        for value in (*ANY_VALUES, T, W, (T, W), Grove(T, ()), Length(1), P.walkers):
            self.assertIs(P == value, False)
            self.assertIs(P != value, True)
            self.assertIs(value == P, False)


class Check(TroopCase):

    def no_standing(self, word, at, value, party=P):
        self.refuses(NoStanding, {'word': word, 'at': at}, party.check, value)
        self.refuses(NoStanding, {'word': word, 'at': at}, party.check, value=value, legal=True)
        if word != 'rope':
            self.refuses(NoStanding, {'word': word, 'at': at}, party.check, value, legal=False)
        else:
            self.assertIs(party.check(value, legal=False), True)

    def test_each_tuple_of_places(self):
        for troop in small_troops():
            for standing in troop.standings():
                strained = troop.strained(standing)
                self.assertIs(troop.party.check(standing, legal=False), True)
                if strained is None:
                    self.assertIs(troop.party.check(standing), True)
                    self.assertIs(troop.party.check(standing, legal=True), True)
                else:
                    self.no_standing('rope', strained, standing, troop.party)

    def test_large_parties(self):
        chance = random.Random(14)
        for troop in some_troops(seed=3):
            for _ in range(6):
                standing = troop.any_standing(chance)
                strained = troop.strained(standing)
                if strained is None:
                    self.assertIs(troop.party.check(standing), True)
                else:
                    self.no_standing('rope', strained, standing, troop.party)

    def test_the_first_walker_that_is_too_far_from_an_earlier_one(self):
        self.no_standing('rope', 1, ('a', 'e', 'a'))
        self.no_standing('rope', 1, ('a', 'c', 'e'))
        self.no_standing('rope', 2, ('a', 'a', 'e'))
        self.no_standing('rope', 2, ('d', 'c', 'a'), Party(T, Web(W.walkers, (('p', 'r', 2),))))
        self.no_standing('rope', 2, ('a', 'b', 'a'), Party(T, Web(W.walkers, (('q', 'r', 0),))))
        self.assertIs(P.check(('a', 'b', 'd')), True)
        self.assertIs(Party(T, Web.loose('p', 'q')).check(('a', 'e')), True)

    def test_any_value(self):
        one = Party(Tree(('a', 'b'), (('a', 'b'),)), Web.loose('p'))
        two = Party(T, Web.loose('p', 'q'))
        for value in (*ANY_VALUES, P, T, (P,), (T, W), Length(1)):
            for party, many in ((one, 1), (two, 2), (P, 3)):
                if not isinstance(value, tuple) or len(value) != many or not all(isinstance(x, str) for x in value):
                    self.no_standing('form', -1, value, party)

    def test_any_value_as_one_of_the_places(self):
        for value in (*ANY_VALUES, P, Length(1)):
            for at in range(3):
                standing = ('a',) * at + (value,) + ('a',) * (2 - at)
                if not isinstance(value, str):
                    self.no_standing('form', -1, standing)
                elif value not in T.places:
                    self.no_standing('place', at, standing)

    def test_too_many_or_too_few(self):
        for value in ((), ('a',), ('a', 'a'), ('a',) * 4, ('x', 'y'), ('x',) * 4, nested(8, 'a'), ['a', 'a', 'a'], 'aaa'):
            self.no_standing('form', -1, value)

    def test_form_comes_before_places_and_places_before_ropes(self):
        self.no_standing('form', -1, ('x', 'a', None))
        self.no_standing('form', -1, ('x', 'a', True))
        self.no_standing('place', 2, ('a', 'e', 'x'))
        self.no_standing('place', 0, ('x', 'y', 'z'))
        self.no_standing('place', 1, ('a', 'y', 'e'))

    def test_legal_only_by_name(self):
        with self.assertRaises(TypeError):
            P.check(('a', 'a', 'a'), False)


class Table(TroopCase):

    def table_of(self, troop):
        lines = ['       ' + ''.join(' ' * (7 - len(walker)) + walker for walker in troop.walkers)]
        for walker in troop.walkers:
            line = ' ' * (7 - len(walker)) + walker
            for other in troop.walkers:
                reach = troop.reaches[walker, other]
                text = 'free' if reach is None else str(reach)
                line += ' ' * max(0, 7 - len(text)) + text
            lines.append(line)
        return '\n'.join(lines)

    def test_each_party(self):
        for troop in itertools.chain(some_troops(seed=4), small_troops(seed=5)):
            found = troop.party.table()
            self.assertIs(found.__class__, str)
            self.assertEqual(found, self.table_of(troop))

    def test_texts_that_are_longer_than_a_field(self):
        for number in (999999, 9999999, 99999999, 10 ** 12):
            web = Web(('abcdef', 'q'), (('q', 'abcdef', number),))
            self.assertEqual(Party(T, web).table(), '\n'.join((
                '        abcdef      q', ' abcdef      0' + f'{number:>7}', '      q' + f'{number:>7}' + '      0')))

    def test_small_ones(self):
        self.assertEqual(Party(T, Web.loose('p')).table(), '             p\n      p      0')
        self.assertEqual(Party(T, Web.loose('p', 'q')).table(),
                         '             p      q\n      p      0   free\n      q   free      0')
        self.assertEqual(P.table(), '             p      q      r\n      p      0      1      3\n'
                                    '      q      1      0      2\n      r      3      2      0')


class Unchanging(TroopCase):

    def test_calls_do_not_change_a_party(self):
        for troop in small_troops(seed=6, times=1):
            party, first = troop.party, None
            for _ in range(2):
                found = [party.table(), party.walkers, [party.gathered(place) for place in troop.land.places],
                         [party.pull(*pull) for pull in troop.pulls()], party.haul(troop.pulls()), repr(party)]
                first = first or found
                self.assertEqual(found, first)
            self.assertEqual(party, Troop(troop.land, troop.web).party)


if __name__ == '__main__':
    unittest.main()
