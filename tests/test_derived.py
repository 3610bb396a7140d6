"""Parties that are made from others: point 53, with 1, 2, 4, 12, 14, 19 and 26."""

import itertools
import random
import unittest

from tests.kit import mixed_names
from tests.lands import Land
from tests.ropes import NAMES, any_ropes
from tests.troops import EQUAL, P, T, Troop, TroopCase, W, any_land, some_troops
from towgrove.derived import beside, on_tree, part, translated
from towgrove.errors import NoMatch, NoTree, NoWalker, NoWeb
from towgrove.parties import Party
from towgrove.trees import Tree
from towgrove.webs import Web

OTHER = Party(Tree(T.places, T.edges[::-1]), Web(('s', 't'), (('t', 's', 1), ('s', 't', 4))))


def state(party):
    return party.tree.places, party.tree.edges, party.web.walkers, party.web.ropes


class PartCase(TroopCase):

    def check_party(self, party, tree, walkers, ropes):
        self.assertIs(party.__class__, Party)
        self.assertIs(party.tree, tree)
        self.assertIs(party.web.__class__, Web)
        self.assertEqual((party.walkers, party.web.ropes), (walkers, ropes))


class Beside(PartCase):

    def test_walkers_and_ropes_of_both(self):
        self.check_party(beside(P, OTHER), T, ('p', 'q', 'r', 's', 't'), W.ropes + OTHER.web.ropes)
        self.check_party(beside(OTHER, P), OTHER.tree, ('s', 't', 'p', 'q', 'r'), OTHER.web.ropes + W.ropes)
        self.check_party(beside(other=OTHER, party=P), T, ('p', 'q', 'r', 's', 't'), W.ropes + OTHER.web.ropes)

    def test_hauls_of_pulls_of_the_first(self):
        chance = random.Random(1)
        for many, walkers in itertools.product((1, 3, 6, 12), (2, 4, 6)):
            land, names = any_land(many, chance), chance.sample(NAMES, walkers)
            at = chance.randint(1, walkers - 1)
            troops = [Troop(land, Web(tuple(some), any_ropes(some, 3, (0, 1, 2), chance))) for some in (names[:at], names[at:])]
            first, second = troops
            both = beside(first.party, second.party)
            self.check_party(both, first.party.tree, tuple(names), first.web.ropes + second.web.ropes)
            for _ in range(4):
                row = first.any_row(chance, 5)
                self.check_haul(both.haul(row), both, first.row_members(row) + [land.places] * (walkers - at))
                row = second.any_row(chance, 5)
                self.check_haul(both.haul(row), both, [land.places] * at + second.row_members(row))
            for one, other in itertools.product(first.walkers, second.walkers):
                self.assertTrue(both.web.reach(one, other).is_free and both.web.reach(other, one).is_free)

    def test_unequal_trees_come_before_common_walkers(self):
        trees = (T.renamed(('a', 'b', 'c', 'd', 'f')), Tree(T.places, T.edges[:3] + (('d', 'e'),)), Tree(('b', 'a', 'c', 'd', 'e'), T.edges),
                 T.cut('c', 'e')[0])
        for tree in trees:
            for web in (OTHER.web, W, Web.loose('p'), Web.loose('s', 't', 'u', 'v')):
                self.refuses(NoMatch, {'word': 'tree'}, beside, P, Party(tree, web))
                self.refuses(NoMatch, {'word': 'tree'}, beside, Party(tree, web), P)

    def test_common_walkers_and_too_many(self):
        for web in (W, Web.loose('p'), Web.loose('s', 'r'), Web.loose('q', 's', 't'), Web.loose('s', 't', 'u', 'v'),
                    Web.loose('s', 't', 'u', 'v', 'w', 'x'), Web.loose('s', 't', 'u', 'p')):
            self.refuses(NoMatch, {'word': 'walkers'}, beside, P, Party(T, web))
            self.refuses(NoMatch, {'word': 'walkers'}, beside, Party(T, web), P)
        self.refuses(NoMatch, {'word': 'walkers'}, beside, P, P)

    def test_six_walkers_together(self):
        for many in range(1, 4):
            party = beside(P, Party(EQUAL.tree, Web.loose(*'stu'[:many])))
            self.check_party(party, T, ('p', 'q', 'r', *'stu'[:many]), W.ropes)

    def test_more_than_fifteen_ropes_together(self):
        one, other = (Party(T, Web(names, (names + (1,),) * 15)) for names in (('p', 'q'), ('r', 's')))
        self.assertEqual(len(beside(one, other).web.ropes), 30)


class Part(PartCase):

    def test_the_web_of_these_walkers(self):
        self.check_party(part(P, ('p', 'r')), T, ('p', 'r'), (('p', 'r', 3),))
        self.check_party(part(P, ['r', 'p']), T, ('p', 'r'), (('p', 'r', 3),))
        self.check_party(part(walkers=('r',), party=P), T, ('r',), ())
        self.check_party(part(P, P.walkers), T, P.walkers, (('p', 'q', 1), ('p', 'r', 3), ('q', 'r', 2)))

    def test_rows_that_pull_only_these_walkers(self):
        chance = random.Random(2)
        for troop in some_troops(seed=2, times=2):
            names = chance.sample(troop.walkers, chance.randint(1, len(troop.walkers)))
            kept = [at for at, walker in enumerate(troop.walkers) if walker in names]
            party = part(troop.party, chance.choice((tuple(names), names)))
            web = troop.web.only(names)
            self.check_party(party, troop.party.tree, web.walkers, web.ropes)
            for _ in range(4):
                row = [(walker, place) for walker, place in troop.any_row(chance, 8) if walker in names]
                members = troop.row_members(row)
                self.check_haul(party.haul(row), party, [members[at] for at in kept])

    def test_errors(self):
        self.refuses(NoWalker, {'walker': 'x'}, part, P, ('p', 'x', 'y'))
        self.refuses(NoWalker, {'walker': 'x'}, part, P, ['p', 'p', 'x'])
        self.refuses(NoWalker, {'walker': 'a'}, part, P, ('a',))
        for walkers in ((), [], ('p', 'p'), ['q', 'r', 'q']):
            self.refuses(NoMatch, {'word': 'walkers'}, part, P, walkers)


class OnTree(PartCase):

    def test_the_same_web_on_another_tree(self):
        for tree in (Tree.in_row('x', 'y'), T.renamed(('p', 'q', 'r', 's', 't')), T, Tree(T.places, T.edges[::-1]), Tree.in_row('a')):
            for party in (P, OTHER):
                found = on_tree(party, tree)
                self.check_party(found, tree, party.walkers, party.web.ropes)
                self.assertIs(found.web, party.web)
                self.assertEqual(found == party, tree == T)

    def test_by_name(self):
        tree = Tree.star('m', 'n', 'o')
        self.assertIs(on_tree(tree=tree, party=P).tree, tree)

    def test_hauls(self):
        chance = random.Random(3)
        for troop in some_troops(seed=3, times=1):
            land = any_land(chance.choice((1, 4, 9)), chance)
            found, other = on_tree(troop.party, land.tree), Troop(land, troop.web)
            for _ in range(3):
                row = other.any_row(chance, 5)
                self.check_haul(found.haul(row), found, other.row_members(row))


class Translated(PartCase):

    def check_translated(self, party, places, walkers):
        found = translated(party, places, walkers)
        place = dict(zip(party.tree.places, places))
        walker = dict(zip(party.walkers, walkers))
        self.assertIs(found.__class__, Party)
        self.same_tree(found.tree, places, [(place[a], place[b]) for a, b in party.tree.edges])
        self.assertIs(found.walkers.__class__, tuple)
        self.assertEqual(found.walkers, tuple(walkers))
        self.assertEqual(found.web.ropes, tuple((walker[a], walker[b], length) for a, b, length in party.web.ropes))
        return found, place, walker

    def test_other_names(self):
        chance = random.Random(4)
        for troop in some_troops(seed=4, times=2):
            places = mixed_names(len(troop.land.places), seed=chance.randrange(10 ** 6))
            walkers = tuple(chance.sample(('x', 'yy', 'p', 'q', 'places', 'u'), len(troop.walkers)))
            for given in ((places, walkers), (list(places), list(walkers)), (places, list(walkers))):
                found, place, walker = self.check_translated(troop.party, *given)
            row = troop.any_row(chance, 6)
            haul = found.haul([(walker[a], place[b]) for a, b in row])
            self.check_haul(haul, found, [tuple(place[b] for b in grove) for grove in troop.row_members(row)])

    def test_names_that_are_exchanged(self):
        found, _, _ = self.check_translated(P, ('e', 'd', 'c', 'b', 'a'), ('r', 'p', 'q'))
        self.assertEqual(str(found.web.reach('r', 'q')), '3')
        self.assertEqual(found.tree.distance('a', 'b'), 2)
        self.check_translated(P, ('p', 'q', 'r', 's', 't'), ('a', 'b', 'c'))

    def test_the_same_names(self):
        found = translated(walkers=P.walkers, places=T.places, party=P)
        self.assertEqual(found, P)
        self.assertEqual(translated(EQUAL, T.places, P.walkers), P)

    def test_a_number_of_places_that_does_not_fit(self):
        for places in ((), ('a',), ('a',) * 4, tuple('abcdef'), list('abcd'), ('A',) * 6):
            for walkers in (P.walkers, (), ('p', 'p', 'p'), ('A',)):
                self.refuses(NoMatch, {'word': 'size'}, translated, P, places, walkers)

    def test_places_that_are_no_names_or_come_twice(self):
        for places, at in ((('a', 'b', 'c', 'd', 'D'), 4), (('', 'b', 'c', 'd', 'e'), 0), (('a', 'b', 'a', 'd', 'b'), 2),
                           (('a', 'abcdefg', 'a', 'd', 'e'), 1), (('a', 'b', 'c', 'd', 'd e'), 4)):
            for walkers in (P.walkers, (), ('p', 'p', 'p'), ('p',) * 7):
                for given in (places, list(places)):
                    self.refuses(NoTree, {'word': 'place', 'at': at}, translated, P, given, walkers)

    def test_a_number_of_walkers_that_does_not_fit(self):
        for walkers in ((), ('p',), ('p', 'q'), ('p', 'q', 'r', 's'), ['p', 'p'], ('A', 'B', 'C', 'D'), tuple('pqrstuv')):
            self.refuses(NoMatch, {'word': 'walkers'}, translated, P, T.places, walkers)

    def test_walkers_that_are_no_names_or_come_twice(self):
        for walkers, at in ((('p', 'q', 'Q'), 2), (('', 'q', 'r'), 0), (('p', 'p', 'x'), 1), (('p', 'q', 'p'), 2), (('p', 'abcdefg', 'p'), 1)):
            for given in (walkers, list(walkers)):
                self.refuses(NoWeb, {'word': 'walker', 'at': at}, translated, P, T.places, given)


class NoChange(PartCase):

    def test_the_parties_and_lists_do_not_change(self):
        before = state(P), state(OTHER)
        places, walkers = ['v', 'w', 'x', 'y', 'z'], ['k', 'l', 'm']
        first = beside(P, OTHER), part(P, walkers=['p', 'q']), on_tree(P, OTHER.tree), translated(P, places, walkers)
        again = beside(P, OTHER), part(P, walkers=['p', 'q']), on_tree(P, OTHER.tree), translated(P, places, walkers)
        self.assertEqual([state(party) for party in first], [state(party) for party in again])
        self.assertEqual(first, again)
        self.assertEqual((state(P), state(OTHER), places, walkers), (*before, ['v', 'w', 'x', 'y', 'z'], ['k', 'l', 'm']))
        places[0], walkers[0] = 'a', 'a'
        self.assertEqual((first[3].tree.places[0], first[3].walkers[0]), ('v', 'k'))

    def test_parties_that_share_a_tree_and_a_web(self):
        land = Land(T.places, T.edges)
        parties = [P, beside(P, OTHER), part(P, ('p', 'r')), on_tree(P, T), Party(T, W.loosened('p', 'q'))]
        troops = [Troop(land, party.web) for party in parties]
        for walker, place in itertools.product(('p', 'r'), T.places):
            for party, troop in zip(parties, troops):
                self.check_haul(party.pull(walker, place), party, troop.pull_members(walker, place))


if __name__ == '__main__':
    unittest.main()
