"""The whole program: points 1 to 4, 12 and 14, over modules that are used together."""

import itertools
import random
import unittest

from tests.camping import SlowCamp, told
from tests.kit import ANY_VALUES
from tests.lands import Land
from tests.ropes import NAMES, any_ropes
from tests.troops import P, T, Troop, TroopCase, W, any_land, any_troop, small_troops, some_troops
from towgrove.camps import Camp
from towgrove.derived import beside, on_tree, part, translated
from towgrove.desks import Desk
from towgrove.effects import effect_of, effects
from towgrove.errors import Broken, NoCommand, NoPlace, NoStanding, NoText, NoTree, NoWalker, NoWeb, TowError
from towgrove.groves import Grove
from towgrove.hauls import Haul
from towgrove.parties import Party
from towgrove.rests import common_rest, commute, rest_holds
from towgrove.rows import parting, shortened, trimmed
from towgrove.sights import fitting, fitting_holds, spans
from towgrove.texts import read_party, read_row, read_tree, show_party, show_row
from towgrove.trees import Tree
from towgrove.webs import Web
from towgrove.wishes import lead_holds, lead_to

ROW = (('p', 'e'), ('r', 'd'))


class Sharing(TroopCase):
    """Parties that share a tree or a web, asked by turns."""

    def ask(self, troop, chance):
        row = troop.any_row(chance, 4)
        standing = troop.any_legal(chance)
        party, members = troop.party, troop.row_members(row)
        self.check_haul(party.haul(row), party, members)
        self.assertEqual(Camp(party, standing).supposed(row), troop.dragged(standing, row))
        self.assertEqual([haul for first, haul in effects(party, row[:1])][-1], party.haul(row[:1]))
        self.assertIs(rest_holds(party, (row,), ('standing', standing)), troop.dragged(standing, row) == standing)
        self.assertEqual(read_row(party, show_row(row)), row)
        return row, standing, members

    def test_parties_on_one_tree(self):
        chance = random.Random(1)
        for many in (1, 4, 9):
            land = any_land(many, chance)
            troops = [Troop(land, Web(tuple(names), any_ropes(names, 3, (0, 1, 2, 3), chance)))
                      for names in (chance.sample(NAMES, chance.randint(1, 4)) for _ in range(5))]
            for _ in range(40):
                self.ask(chance.choice(troops), chance)

    def test_parties_with_one_web(self):
        chance = random.Random(2)
        for many in (1, 3, 5):
            names = tuple(chance.sample(NAMES, many))
            web = Web(names, any_ropes(names, 4, (0, 1, 2, 3), chance))
            troops = [Troop(any_land(places, chance), web) for places in (1, 2, 5, 8, 8)]
            for _ in range(40):
                self.ask(chance.choice(troops), chance)

    def test_questions_of_one_party_between_those_of_another(self):
        chance = random.Random(3)
        troops = [any_troop(6, 3, chance) for _ in range(4)]
        answers = [self.ask(troop, chance) for troop in troops]
        for _ in range(30):
            at = chance.randrange(4)
            troop, (row, standing, members) = troops[at], answers[at]
            self.check_haul(troop.party.haul(row), troop.party, members)
            self.assertEqual(troop.party.haul(row)(standing), troop.dragged(standing, row))

    def test_camps_and_desks_of_one_party(self):
        chance = random.Random(4)
        for troop in some_troops(seed=4, times=1):
            start = troop.land.places[:1] * len(troop.walkers)
            camps = [(Camp(troop.party, start), SlowCamp(troop, start)) for _ in range(2)]
            desk = Desk()
            desk.say('party ' + show_party(troop.party).replace('\n', ' ; '))
            slow = SlowCamp(troop, start)
            for _ in range(12):
                pull = troop.any_pull(chance)
                for camp, other in chance.sample(camps, 1):
                    self.assertEqual(camp.pull(*pull), other.pull(*pull))
                if chance.random() < 0.5:
                    self.assertEqual(desk.say('pull ' + ' '.join(pull)), ' '.join(slow.pull(*pull)) or 'nobody')
                self.assertEqual(desk.say('show'), ' '.join(slow.standing))
                self.assertEqual([camp.standing for camp, _ in camps], [other.standing for _, other in camps])

    def test_iterators_of_several_objects_read_by_turns(self):
        one, other = any_troop(6, 3, random.Random(5)), any_troop(7, 2, random.Random(6))
        calls = []
        for troop in (one, other):
            party, tree, pulls = troop.party, troop.party.tree, troop.pulls()
            haul, start = party.pull(*pulls[1]), tree.places[:1] * len(troop.walkers)
            for work, *values in ((tree.path, tree.places[0], tree.places[-1]), (tree.walk, tree.places[1]), (haul.groves[0].leaves,),
                                  (haul.groves[-1].border,), (party.steps, start, *pulls[-1]), (effects, party, pulls[:4])):
                calls.append((work, values, list(work(*values))))
        running = [(iter(work(*values)), list(items)) for work, values, items in calls * 2]
        chance = random.Random(7)
        while running:
            iterator, items = chance.choice(running)
            if items:
                self.assertEqual(next(iterator), items.pop(0))
            else:
                self.assertRaises(StopIteration, next, iterator)
                running = [pair for pair in running if pair[0] is not iterator]


class Promises(TroopCase):
    """What section 3 promises, over the functions that tell of it."""

    def test_a_row_done_twice_does_what_it_does_once(self):
        chance = random.Random(8)
        for troop in some_troops(seed=8, times=1):
            row = troop.any_row(chance, 6)
            haul = troop.party.haul(row)
            self.assertEqual(haul >> haul, haul)
            self.assertTrue(commute(troop.party, row, row))
            self.assertEqual(troop.party.haul(shortened(row)), haul)
            self.assertEqual(troop.party.haul(trimmed(troop.party, row)), haul)
            camp = Camp(troop.party, troop.any_legal(chance))
            camp.several(row)
            self.assertEqual(camp.supposed(row), camp.standing)

    def test_rows_have_equal_hauls_or_a_gathered_standing_parts_them(self):
        chance = random.Random(9)
        for troop in small_troops(seed=9, times=2):
            row, other = troop.any_row(chance, 3), troop.any_row(chance, 3)
            ends = [(troop.dragged(standing, row), troop.dragged(standing, other))
                    for standing in map(troop.party.gathered, troop.land.places)]
            same = all(one == two for one, two in ends)
            self.assertIs(troop.party.haul(row) == troop.party.haul(other), same)
            self.assertIs(parting(troop.party, row, other) is None, same)

    def test_legal_standings_stay_legal(self):
        chance = random.Random(10)
        for troop in some_troops(seed=10, times=1):
            camp = Camp(troop.party, troop.any_legal(chance))
            for pull in troop.any_row(chance, 12):
                camp.pull(*pull)
                self.assertIs(troop.party.check(camp.standing), True)
                self.assertIsNone(troop.strained(camp.standing))

    def test_the_pulls_of_a_camp_are_explained_by_its_web(self):
        chance = random.Random(11)
        for troop in some_troops(seed=11, times=1):
            camp, sights = Camp(troop.party, troop.any_legal(chance)), []
            for pull in troop.any_row(chance, 15):
                before = camp.standing
                camp.pull(*pull)
                sights.append((before, pull, camp.standing))
            word, web = fitting(troop.party.tree, troop.walkers, sights)
            self.assertEqual(word, 'web')
            self.assertIs(troop.web.tighter(web), True)
            for a, b, least, greatest in spans(troop.party.tree, troop.walkers, sights):
                self.assertTrue(least <= troop.web.reach(a, b) <= greatest)
            found = Camp(Party(troop.party.tree, web), sights[0][0]) if sights else None
            for before, pull, after in sights:
                found.place_all(before)
                found.pull(*pull)
                self.assertEqual(found.standing, after)

    def test_answers_of_all_kinds_hold(self):
        chance = random.Random(12)
        for troop in some_troops(seed=12, times=1):
            party, standing = troop.party, troop.any_legal(chance)
            book = tuple(dict.fromkeys(troop.any_row(chance, 5)))
            wish = party.haul_of(troop.any_pull(chance))
            self.assertIs(lead_holds(party, book, standing, wish, lead_to(party, book, standing, wish)), True)
            rows = [troop.any_row(chance, 3) for _ in range(3)]
            self.assertIs(rest_holds(party, rows, common_rest(party, rows)), True)
            self.assertEqual(party.haul(effect_of(party, book, book * 2)), party.haul(book * 2))
            self.assertEqual(read_party(show_party(party)), party)

    def test_methods_that_raise_change_neither_camp_nor_desk(self):
        camp, desk = Camp(P, ('a', 'a', 'a')), Desk()
        desk.say('party ' + show_party(P).replace('\n', ' ; '))
        for thing in (camp.several(ROW), desk.say('row p e, r d')):
            self.assertIn(thing, (2, '2 done'))
        before, many, show = told(camp), len(desk), desk.say('show')
        for value in (*ANY_VALUES, P, ('a', 'e', 'e')):
            if value != ('a', 'b', 'c'):
                self.assertRaises(NoStanding, camp.place_all, value)
            self.assertRaises(Broken, camp.several, (*ROW, value))
            self.assertRaises(Broken, camp.supposed, [value])
            self.assertRaises(Broken, camp.tried, [*ROW, value], wish=Haul.still(P))
            self.assertRaises(Broken, camp.nested, [ROW, [value], ROW])
            if isinstance(value, str):
                self.assertRaises((NoCommand, TowError), desk.say, value)
                self.assertRaises((NoCommand, NoWalker, NoPlace), desk.say, f'pull {value} p')
        self.assertEqual((told(camp), len(desk), desk.say('show')), (before, many, show))


class Values(TroopCase):
    """`True` and `False` are no integers, and no value stands for another one."""

    def test_true_and_false_where_integers_stand(self):
        for value in (True, False):
            self.refuses(NoWeb, {'word': 'form', 'at': 0}, Web, ('p', 'q'), (('p', 'q', value),))
            self.refuses(NoWeb, {'word': 'form', 'at': 0}, Web, (value, 'q'), ())
            self.refuses(NoTree, {'word': 'form', 'at': 0}, Tree, ('a', value), (('a', value),))
            self.refuses(NoStanding, {'word': 'form', 'at': -1}, P.check, ('a', 'a', value))
            self.refuses(NoStanding, {'word': 'form', 'at': -1}, Camp, P, (value,) * 3)
            self.refuses(Broken, {'at': 0}, P.haul, [(value, 'a')])
        rows = ((('p', 'e'),), (('p', 'a'),))
        self.assertIs(rest_holds(P, rows, ('apart', 0, 1, 'p')), True)
        self.assertIs(rest_holds(P, rows, ('apart', False, True, 'p')), False)
        odd = ((('a',), ('p', 'e'), ('a',)),) * 2
        self.assertEqual([fitting_holds(T, ('p',), odd, ('odd', at, 'p')) for at in (0, 1, False, True)], [True, True, False, False])

    def test_names_that_are_looked_up_in_every_value(self):
        for value in ANY_VALUES:
            self.assertIs(value in T, value in ('a', 'b') and isinstance(value, str))
            self.assertIs(value in W, False)
            self.assertIs(value in Grove(T, ('a',)), value == 'a')
            self.assertIs(value in Haul.still(P), value == ('a', 'b', 'c'))
            self.assertIs(Tree.is_name(value), value in ('a', 'b', 'z', 'abcdef'))


class LaterChanges(TroopCase):
    """Lists that are handed in may be changed later."""

    def test_groves_hauls_webs_and_parties(self):
        places, groves, walkers, names = ['a', 'b'], list(P.pull('p', 'e').groves), ['p', 'r'], list('vwxyz')
        things = [Grove(T, places), Haul(P, groves), W.only(walkers), part(P, walkers), T.renamed(names), translated(P, names, ['k', 'l', 'm'])]
        copies = [Grove(T, ('a', 'b')), P.pull('p', 'e'), W.only(('p', 'r')), part(P, ('p', 'r')), T.renamed(tuple('vwxyz')),
                  translated(P, tuple('vwxyz'), ('k', 'l', 'm'))]
        for given in (places, groves, walkers, names):
            given.clear()
        self.assertEqual(things, copies)

    def test_rows_books_and_sights(self):
        row, rows, sights = list(ROW), [list(ROW)], [(('a', 'a', 'a'), ('p', 'e'), ('e', 'b', 'a'))]
        camp = Camp(P, ('a', 'a', 'a'))
        camp.several(row)
        found = (P.haul(row), shortened(row), lead_to(P, row, ('a', 'a', 'a'), P.haul(row)), common_rest(P, rows), effect_of(P, row, row),
                 fitting(T, P.walkers, sights), camp.log())
        wanted = (P.haul(ROW), shortened(ROW), lead_to(P, ROW, ('a', 'a', 'a'), P.haul(ROW)), common_rest(P, (ROW,)), effect_of(P, ROW, ROW),
                  fitting(T, P.walkers, tuple(sights)), camp.log())
        self.assertEqual((row, rows), (list(ROW), [list(ROW)]))
        for given in (row, rows[0], rows, sights):
            given.clear()
        self.assertEqual(found, wanted)
        self.assertEqual(camp.log(), wanted[-1])


class Limits(TroopCase):

    def test_the_greatest_party_through_all_modules(self):
        chance = random.Random(13)
        land = any_land(40, chance)
        names = ('p', 'q', 'r', 's', 'pq', 'zzzzzz')
        web = Web(names, tuple((*pair, chance.randint(0, 9)) for pair in itertools.combinations(names, 2)))
        troop = Troop(land, web)
        party = troop.party
        text = show_party(party)
        self.assertEqual(read_party(text).web.ropes, web.ropes)
        desk = Desk()
        self.assertEqual(desk.say('party ' + text.replace('\n', ' ; ')), '6 walkers')
        row = tuple(troop.any_pull(chance) for _ in range(40))
        self.assertEqual(desk.say(f'row {show_row(row)}'), '40 done')
        start = (land.places[0],) * 6
        self.assertEqual(desk.say('show'), ' '.join(troop.dragged(start, row)))
        self.check_haul(party.haul(row), party, troop.row_members(row))
        camp = Camp(party, start)
        self.assertEqual(len(camp.nested([row[at:at + 5] for at in range(0, 40, 5)], kept=tuple(range(8)))), 8)
        self.assertEqual((camp.several(row[:20]), len(camp)), (20, 60))
        turned = translated(party, land.places[::-1], names[::-1])
        self.assertEqual((len(turned.tree), turned.walkers), (40, names[::-1]))
        self.assertEqual(on_tree(party, turned.tree).web, web)

    def test_texts_and_commands_of_three_thousand_characters(self):
        for sign in ('a', ' ', '\n', ',', ';', '0'):
            text = sign * 3000
            self.refuses(NoText, {'row': 0}, read_tree, text)
            self.refuses(NoText, {'row': 0}, read_party, text)
            self.refuses(NoText, {'row': 0}, read_row, P, text)
            self.refuses(NoCommand, {}, Desk().say, text)
        lines = ['places a b', 'edge a b', 'walkers p q', *['rope p q 999'] * 225]
        self.assertEqual(len(read_party('\n'.join(lines)).web.ropes), 225)
        self.refuses(NoText, {'row': 228}, read_party, '\n'.join([*lines, '']))

    def test_webs_and_parties_that_this_package_returns(self):
        one, other = Party(T, Web(('p', 'q'), (('p', 'q', 100),) * 15)), Party(T, Web(('r', 's'), (('r', 's', 100),) * 15))
        both = beside(one, other)
        again = read_party(show_party(both))
        self.assertEqual(again.web.ropes, both.web.ropes)
        self.assertEqual(beside(part(both, ('p', 's')), part(both, ('q',))).walkers, ('p', 's', 'q'))
        self.assertEqual(Troop(Land(T.places, T.edges), both.web).row_members(ROW[1:]), [
            grove.places for grove in both.haul(ROW[1:]).groves])


if __name__ == '__main__':
    unittest.main()
