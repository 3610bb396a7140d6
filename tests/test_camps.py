"""Camps and their deeds: points 44 to 46, with 1, 2, 4, 9, 12 and 14."""

import random
import unittest

from tests.camping import START, TROOP, CampCase, SlowCamp, camp_with, told
from tests.kit import ANY_VALUES
from tests.troops import EQUAL, OTHERS, P, T, W, some_troops
from towgrove.camps import Camp
from towgrove.errors import Broken, NoPlace, NoStanding, NoWalker
from towgrove.parties import Party
from towgrove.webs import Web

BAD_STANDINGS = (
    (('a', 'a'), 'form', -1), (('a',) * 4, 'form', -1), ((), 'form', -1), (['a', 'a', 'a'], 'form', -1), ('aaa', 'form', -1),
    (('a', 'a', 1), 'form', -1), (('a', True, 'a'), 'form', -1), ((('a',), 'a', 'a'), 'form', -1), (None, 'form', -1),
    (('x', 'a', 'a'), 'place', 0), (('a', 'p', 'y'), 'place', 1), (('a', 'e', ''), 'place', 2), (('a', 'e', 'x'), 'place', 2),
    (('a', 'c', 'c'), 'rope', 1), (('a', 'a', 'd'), 'rope', 2), (('e', 'b', 'a'), 'rope', 1),
)


def bad_standings():
    yield from BAD_STANDINGS
    for value in ANY_VALUES:
        if value != ('a', 'b', 'c'):
            yield value, 'form', -1


class Building(CampCase):

    def test_a_new_camp(self):
        for troop in some_troops(seed=1, times=1):
            standing = troop.any_legal(random.Random(1))
            camp = Camp(troop.party, standing)
            self.assertIs(camp.party, troop.party)
            self.check_camp(camp, SlowCamp(troop, standing))
            self.assertIs(camp.undo(), False)

    def test_by_name(self):
        camp = Camp(standing=('e', 'c', 'a'), party=P)
        self.assertEqual((camp.standing, camp.log(), len(camp), camp.depth), (('e', 'c', 'a'), [], 0, 0))
        self.assertIs(camp.place_all(standing=START), None)
        self.assertEqual(camp.pull(place='e', walker='p'), ('p', 'q'))

    def test_each_standing(self):
        for standing in TROOP.standings():
            at = TROOP.strained(standing)
            if at is None:
                self.assertEqual(Camp(P, standing).standing, standing)
            else:
                self.refuses(NoStanding, {'word': 'rope', 'at': at}, Camp, P, standing)

    def test_values_that_are_no_standing(self):
        for value, word, at in bad_standings():
            self.refuses(NoStanding, {'word': word, 'at': at}, Camp, P, value)


class PlaceAll(CampCase):

    def test_standings_are_set_as_deeds(self):
        camp, slow = Camp(P, START), SlowCamp(TROOP, START)
        for standing in (('e', 'c', 'a'), START, START, ('b', 'b', 'b')):
            self.assertIs(camp.place_all(standing), None)
            slow.place_all(standing)
            self.check_camp(camp, slow)
        self.assertEqual(camp.log()[1:3], [('set', START), ('set', START)])

    def test_a_standing_that_is_set_again_is_a_deed(self):
        camp = Camp(P, START)
        camp.place_all(START)
        self.assertEqual((len(camp), camp.log(), camp.undo(), camp.undo()), (1, [('set', START)], True, False))

    def test_values_that_are_no_standing_change_nothing(self):
        for camp in (Camp(P, START), camp_with(('p', 'e'), ('r', 'd'))):
            for value, word, at in bad_standings():
                self.refused_and_stays(camp, NoStanding, {'word': word, 'at': at}, camp.place_all, value)


class Pulling(CampCase):

    def test_every_pull_from_every_standing(self):
        for standing in TROOP.legal_standings():
            for walker, place in TROOP.pulls():
                camp, slow = Camp(P, standing), SlowCamp(TROOP, standing)
                moved = camp.pull(walker, place)
                self.assertIs(moved.__class__, tuple)
                self.assertEqual(moved, slow.pull(walker, place))
                self.assertEqual((camp.standing, camp.log(), len(camp)), (slow.standing, slow.entries, 1))

    def test_larger_parties(self):
        chance = random.Random(2)
        for troop in some_troops(seed=2, times=1):
            standing = troop.any_legal(chance)
            camp, slow = Camp(troop.party, standing), SlowCamp(troop, standing)
            for _ in range(12):
                pull = troop.any_pull(chance)
                self.assertEqual(camp.pull(*pull), slow.pull(*pull))
            self.check_camp(camp, slow)

    def test_a_pull_that_moves_nobody_is_a_deed(self):
        camp = Camp(P, START)
        self.assertEqual(camp.pull('q', 'a'), ())
        self.assertEqual((len(camp), camp.log(), camp.standing), (1, [('pull', 'q', 'a')], START))
        self.assertEqual((camp.undo(), camp.undo(), camp.log()), (True, False, [('pull', 'q', 'a'), ('undo',)]))

    def test_walkers_are_told_in_the_order_of_the_party(self):
        turned = Party(T, Web(('r', 'q', 'p'), W.ropes))
        self.assertEqual(Camp(turned, START).pull('p', 'e'), ('q', 'p'))
        self.assertEqual(Camp(turned, ('a', 'a', 'a')).pull('q', 'e'), ('r', 'q', 'p'))

    def test_unknown_walkers_come_before_unknown_places(self):
        for camp in (Camp(P, START), camp_with(('p', 'e'))):
            for walker in ('x', '', 'a', 'P', 'pq', 'p '):
                for place in ('a', 'x', ''):
                    self.refused_and_stays(camp, NoWalker, {'walker': walker}, camp.pull, walker, place)
            for place in ('x', '', 'p', 'A', 'ab', 'a\n'):
                self.refused_and_stays(camp, NoPlace, {'place': place}, camp.pull, 'q', place)


class Several(CampCase):

    def test_rows(self):
        chance = random.Random(3)
        for troop in some_troops(seed=3, times=1):
            standing = troop.any_legal(chance)
            for named in ({}, {'whole': True}, {'whole': False}):
                row = troop.any_row(chance, 9)
                for given in (row, list(row)):
                    camp, slow = Camp(troop.party, standing), SlowCamp(troop, standing)
                    found = camp.several(given, **named)
                    self.assertEqual((found.__class__, found), (int, len(row)))
                    for pull in row:
                        slow.pull(*pull)
                    self.check_camp(camp, slow)
                    self.assertEqual(camp.standing, troop.party.haul(row)(standing))

    def test_each_pull_is_a_deed_of_its_own(self):
        row = (('p', 'e'), ('p', 'e'), ('r', 'd'))
        camp = Camp(P, START)
        self.assertEqual(camp.several(row=row), 3)
        self.assertEqual((len(camp), camp.log()), (3, [('pull', *pull) for pull in row]))
        self.assertEqual((camp.undo(), camp.standing, camp.undo(), camp.standing), (True, ('e', 'c', 'a'), True, ('e', 'c', 'a')))
        self.assertEqual((camp.undo(), camp.standing, camp.undo()), (True, START, False))

    def test_the_empty_row_does_nothing(self):
        for row in ((), []):
            for whole in (True, False):
                camp = camp_with(('p', 'e'))
                self.assertEqual(self.stays(camp, camp.several, row, whole=whole), 0)

    def test_forty_pulls_and_sixty_deeds(self):
        camp, slow, chance = Camp(P, START), SlowCamp(TROOP, START), random.Random(4)
        for many in (40, 20):
            row = [TROOP.any_pull(chance) for _ in range(many)]
            self.assertEqual(camp.several(row), many)
            for pull in row:
                slow.pull(*pull)
        self.check_camp(camp, slow)
        self.assertEqual(len(camp), 60)

    def test_values_that_are_no_pull_at_every_index(self):
        good = (('p', 'e'), ('r', 'd'), ('q', 'a'))
        for value in (*ANY_VALUES, P, ('x', 'a'), ('p', 'x'), ('a', 'p'), ('p', 'a', 'a'), ['p', 'a']):
            for at in range(4):
                row = good[:at] + (value, ('x', 'x'), ('p', 'b'))
                for given in (row, list(row)):
                    for named in ({}, {'whole': True}):
                        camp = camp_with(('q', 'c'))
                        self.refused_and_stays(camp, Broken, {'at': at}, camp.several, given, **named)
                    camp, slow = camp_with(('q', 'c')), SlowCamp(TROOP, START)
                    self.refuses(Broken, {'at': at}, camp.several, given, whole=False)
                    slow.pull('q', 'c')
                    for pull in good[:at]:
                        slow.pull(*pull)
                    self.check_camp(camp, slow)

    def test_a_row_that_is_refused_is_not_in_the_log(self):
        camp = camp_with(('p', 'e'))
        camp.undo()
        self.refused_and_stays(camp, Broken, {'at': 1}, camp.several, (('p', 'b'), ('p', 'x')))
        self.assertEqual(camp.log(), [('pull', 'p', 'e'), ('undo',)])
        self.refuses(Broken, {'at': 1}, camp.several, (('p', 'b'), ('p', 'x')), whole=False)
        self.assertEqual(camp.log(), [('pull', 'p', 'e'), ('undo',), ('pull', 'p', 'b')])

    def test_whole_is_passed_by_name(self):
        with self.assertRaises(TypeError):
            Camp(P, START).several((), False)

    def test_the_row_does_not_change(self):
        row = [('p', 'e'), ('r', 'd')]
        camp = Camp(P, START)
        camp.several(row)
        self.assertEqual(row, [('p', 'e'), ('r', 'd')])
        before = told(camp)
        row.append(('q', 'a'))
        self.assertEqual(told(camp), before)


class Undo(CampCase):

    def test_without_deeds(self):
        camp = Camp(P, START)
        for _ in range(3):
            self.assertIs(self.stays(camp, camp.undo), False)

    def test_deeds_of_every_kind(self):
        camp, slow = Camp(P, START), SlowCamp(TROOP, START)
        for work in (lambda one: one.pull('p', 'e'), lambda one: one.place_all(('b', 'b', 'b')), lambda one: one.undo(),
                     lambda one: one.undo(), lambda one: one.undo(), lambda one: one.pull('r', 'a'), lambda one: one.pull('r', 'd'),
                     lambda one: one.undo(), lambda one: one.place_all(START), lambda one: one.undo(), lambda one: one.undo()):
            self.assertEqual(work(camp), work(slow))
            self.check_camp(camp, slow)

    def test_behind_several(self):
        camp = Camp(P, START)
        camp.several((('p', 'e'), ('r', 'd'), ('q', 'a')))
        self.assertIs(camp.undo(), True)
        self.assertEqual((len(camp), camp.standing), (2, P.haul_of(('p', 'e'), ('r', 'd'))(START)))

    def test_behind_an_error(self):
        camp = camp_with(('p', 'e'), ('r', 'd'))
        self.refuses(Broken, {'at': 1}, camp.several, (('q', 'a'), None))
        self.refuses(NoPlace, {'place': 'x'}, camp.pull, 'p', 'x')
        self.refuses(NoStanding, {'word': 'form', 'at': -1}, camp.place_all, None)
        self.assertIs(camp.undo(), True)
        self.assertEqual((camp.standing, len(camp)), (('e', 'c', 'a'), 1))
        self.refuses(Broken, {'at': 1}, camp.several, (('q', 'a'), None), whole=False)
        self.assertIs(camp.undo(), True)
        self.assertEqual((camp.standing, len(camp)), (('e', 'c', 'a'), 1))

    def test_undoing_is_no_deed(self):
        camp = camp_with(('p', 'e'))
        self.assertEqual((camp.undo(), len(camp), camp.undo(), len(camp), camp.standing), (True, 0, False, 0, START))

    def test_many_deeds_that_are_taken_back(self):
        camp = Camp(P, START)
        for _ in range(3000):
            camp.pull('p', 'e')
            camp.undo()
        self.assertEqual((len(camp), camp.standing, len(camp.log())), (0, START, 6000))


class Log(CampCase):

    def test_the_entries(self):
        camp = Camp(P, START)
        camp.pull('p', 'e')
        camp.place_all(('b', 'b', 'b'))
        camp.undo()
        camp.undo()
        camp.undo()
        camp.several([('q', 'c')])
        log = camp.log()
        self.assertEqual(log, [('pull', 'p', 'e'), ('set', ('b', 'b', 'b')), ('undo',), ('undo',), ('pull', 'q', 'c')])
        self.assertTrue(all(entry.__class__ is tuple for entry in log))

    def test_a_log_that_its_reader_changes(self):
        camp = camp_with(('p', 'e'), ('r', 'd'))
        before = told(camp)
        log = camp.log()
        log.append('x')
        del log[0]
        self.assertEqual(told(camp), before)
        self.assertIsNot(camp.log(), camp.log())
        camp.log().clear()
        self.assertEqual(told(camp), before)
        camp.pull('p', 'a')
        self.assertEqual(len(log), 2)

    def test_what_only_asks_is_not_in_the_log(self):
        camp = camp_with(('p', 'e'))
        before = told(camp)
        for _ in range(2):
            self.assertEqual((camp.party, camp.standing, len(camp), repr(camp), camp == camp.copied(), camp.depth, camp.log()),
                             (P, ('e', 'c', 'a'), 1, 'Camp(3 walkers, 1 deeds)', True, 0, [('pull', 'p', 'e')]))
        self.assertEqual(told(camp), before)


class Equality(CampCase):

    def test_equal_camps(self):
        one, other = Camp(P, ('e', 'c', 'a')), camp_with(('p', 'e'))
        self.assertTrue(one == other and not one != other)
        self.assertEqual(Camp(EQUAL, ('e', 'c', 'a')), other)
        other.undo()
        self.assertNotEqual(one, other)
        self.assertEqual(Camp(P, START), other)

    def test_camps_of_other_parties_and_standings(self):
        camp = Camp(P, ('a', 'a', 'a'))
        for party in OTHERS:
            self.assertNotEqual(camp, Camp(party, party.gathered('a')))
        for standing in TROOP.legal_standings():
            self.assertIs(camp == Camp(P, standing), standing == START)

    def test_a_camp_is_equal_to_nothing_else(self):
        camp = Camp(P, START)
        for value in (*ANY_VALUES, START, P, P.web, (P, START)):
            self.assertIs(camp == value, False)
            self.assertIs(value == camp, False)
            self.assertIs(camp != value, True)

    def test_repr(self):
        camp = Camp(Party(T, W.only(['q'])), ('a',))
        self.assertEqual(repr(camp), 'Camp(1 walkers, 0 deeds)')
        camp.pull('q', 'b')
        self.assertEqual(repr(camp), 'Camp(1 walkers, 1 deeds)')


class Copied(CampCase):

    def test_in_the_middle_of_deeds(self):
        chance = random.Random(5)
        camp, slow = Camp(P, START), SlowCamp(TROOP, START)
        both = [(camp, slow)]
        for _ in range(300):
            camp, slow = chance.choice(both)
            kind = chance.randrange(8)
            pull = TROOP.any_pull(chance)
            if kind < 4:
                self.assertEqual(camp.pull(*pull), slow.pull(*pull))
            elif kind < 6:
                self.assertEqual(camp.undo(), slow.undo())
            elif kind == 6:
                standing = TROOP.any_legal(chance)
                self.assertEqual(camp.place_all(standing), slow.place_all(standing))
            else:
                both.append((camp.copied(), slow.copied()))
                self.assertEqual(both[-1][0], camp)
            both = both[-6:]
            for one, other in both:
                self.assertEqual((one.standing, len(one), one.log()), (other.standing, len(other.deeds), other.entries))
        for camp, slow in both:
            self.check_camp(camp, slow)

    def test_the_party_is_the_same(self):
        camp = Camp(P, START)
        self.assertIs(camp.copied().party, P)
        self.assertIsNot(camp.copied(), camp)
        self.assertIs(camp.copied().__class__, Camp)


class Document(CampCase):

    def test_the_first_example(self):
        camp = Camp(P, ('a', 'a', 'a'))
        self.assertEqual((camp.pull('p', 'e'), camp.supposed((('r', 'd'),)), camp.standing, camp.log()),
                         (('p', 'q'), ('e', 'c', 'd'), ('e', 'c', 'a'), [('pull', 'p', 'e')]))

    def test_the_second_example(self):
        camp = Camp(P, ('a', 'a', 'a'))
        self.refuses(Broken, {'at': 1}, camp.several, (('p', 'b'), ('p', 'x')), whole=False)


if __name__ == '__main__':
    unittest.main()
