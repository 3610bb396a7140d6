"""Pulls, the hauls of rows, and single moves: points 9 to 12, 29 and 30, with points 2, 3 and 14."""

import itertools
import random
import unittest

from tests.kit import ANY_VALUES, first_item
from tests.troops import EQUAL, P, T, W, TroopCase, small_troops, some_troops
from towgrove.errors import Broken, NoPlace, NoStanding, NoWalker
from towgrove.hauls import Haul
from towgrove.lengths import Length
from towgrove.parties import Party
from towgrove.webs import Web

STRANGERS = ('x', '', 'A', 'a ', 'aa', '\n')


class Pulls(TroopCase):

    def test_the_groves_of_each_pull(self):
        for troop in some_troops():
            for walker, place in troop.pulls():
                self.check_haul(troop.party.pull(walker, place), troop.party, troop.pull_members(walker, place))

    def test_ropes_that_drag_in_any_order_lead_where_the_haul_leads(self):
        chance = random.Random(1)
        for troop in small_troops(seed=2):
            for standing in troop.legal_standings():
                for pull in troop.pulls():
                    *_, last = troop.drag(standing, pull, chance.choice)
                    self.assertEqual(troop.party.pull(*pull)(standing), last)
                    self.assertIs(troop.party.check(last), True)

    def test_ropes_that_drag_in_large_parties(self):
        chance = random.Random(2)
        for troop in some_troops(seed=8, times=4):
            for _ in range(5):
                standing, pull = troop.any_legal(chance), troop.any_pull(chance)
                ends = {tuple(troop.drag(standing, pull, choose))[-1]
                        for choose in (chance.choice, min, max, chance.choice, lambda pairs: pairs[0])}
                self.assertEqual(ends, {troop.party.pull(*pull)(standing)})

    def test_arguments_by_name(self):
        self.assertEqual(P.pull(place='e', walker='p'), P.pull('p', 'e'))

    def test_no_walker_comes_before_no_place(self):
        for x, y in itertools.product(STRANGERS, repeat=2):
            self.refuses(NoWalker, {'walker': x}, P.pull, x, y)
            self.refuses(NoWalker, {'walker': x}, P.pull, place=y, walker=x)
        for x in STRANGERS:
            self.refuses(NoWalker, {'walker': x}, P.pull, x, 'a')
            self.refuses(NoPlace, {'place': x}, P.pull, 'p', x)
        self.refuses(NoWalker, {'walker': 'a'}, P.pull, 'a', 'p')
        self.refuses(NoPlace, {'place': 'p'}, P.pull, 'q', 'p')


class Rows(TroopCase):

    def test_the_groves_of_rows(self):
        chance = random.Random(3)
        for troop in some_troops(seed=9):
            for most in (1, 3, 6):
                row = troop.any_row(chance, most)
                for found in (troop.party.haul(row), troop.party.haul(list(row)), troop.party.haul_of(*row)):
                    self.check_haul(found, troop.party, troop.row_members(row))

    def test_rows_lead_every_legal_standing_there(self):
        chance = random.Random(4)
        for troop in small_troops(seed=10):
            for _ in range(4):
                row = troop.any_row(chance, 5)
                haul = troop.party.haul(row)
                for standing in troop.legal_standings():
                    last = standing
                    for pull in row:
                        *_, last = troop.drag(last, pull, chance.choice)
                    self.assertEqual(haul(standing), last)

    def test_the_hauls_of_the_pulls_one_after_another(self):
        chance = random.Random(5)
        for troop in some_troops(seed=11, times=2):
            row = troop.any_row(chance, 5)
            found = Haul.still(troop.party)
            for pull in row:
                found = found >> troop.party.pull(*pull)
            self.assertEqual(troop.party.haul(row), found)

    def test_the_empty_row_and_rows_of_one_pull(self):
        for troop in some_troops(seed=12, times=1):
            for found in (troop.party.haul(()), troop.party.haul([]), troop.party.haul_of()):
                self.check_haul(found, troop.party, [troop.land.places] * len(troop.walkers))
                self.assertEqual(found, Haul.still(troop.party))
            for pull in troop.pulls()[:5]:
                self.assertEqual(troop.party.haul([pull]), troop.party.pull(*pull))
                self.assertEqual(troop.party.haul_of(pull), troop.party.pull(*pull))

    def test_rows_of_forty_pulls(self):
        chance = random.Random(6)
        for troop in some_troops(seed=13, times=1):
            row = tuple(troop.any_pull(chance) for _ in range(40))
            self.assertEqual(troop.party.haul(row), troop.party.haul(row + row))
            last = [pull for at, pull in enumerate(row) if pull not in row[at + 1:]]
            self.assertEqual(troop.party.haul(row), troop.party.haul(last))

    def test_a_list_that_is_changed_later(self):
        row = [('p', 'e'), ('r', 'd')]
        haul = P.haul(row)
        row.append(('q', 'a'))
        self.assertEqual(row, [('p', 'e'), ('r', 'd'), ('q', 'a')])
        self.assertEqual(haul, P.haul_of(('p', 'e'), ('r', 'd')))
        self.assertEqual(P.haul(row=row), haul >> P.pull('q', 'a'))


class NoPulls(TroopCase):

    def broken(self, at, row):
        for work in (P.haul, lambda given: P.haul(list(given)), lambda given: P.haul_of(*given)):
            self.refuses(Broken, {'at': at}, work, row)

    def test_any_value_in_the_place_of_a_pull(self):
        for value in (*ANY_VALUES, P, ('p', T), (W, 'a'), Length(1), ['p', 'a']):
            for before, behind in itertools.product(range(3), repeat=2):
                self.broken(before, (('p', 'a'), ('r', 'e'))[:before] + (value,) + (('q', 'b'), None)[:behind])

    def test_what_is_no_pull(self):
        for value in (('p',), ('p', 'a', 'a'), ('a', 'p'), ('p', 'x'), ('x', 'a'), ('p', ''), ('', 'a'), ('P', 'a'),
                      (('p', 'a'),), ('p', ('a',)), ('p', None), (None, 'a'), ('p', True), 'pa', ('p', 'a '), ()):
            for at in range(4):
                self.broken(at, (('p', 'a'),) * at + (value, ('x', 'x')))

    def test_any_value_as_a_part_of_a_pull(self):
        for value in (*ANY_VALUES, P):
            if value not in W:
                self.broken(0, ((value, 'a'),))
            if value not in T:
                self.broken(1, (('p', 'a'), ('p', value)))


def steps_read(party, *values, **named):
    return list(party.steps(*values, **named))


class Steps(TroopCase):

    def check_steps(self, troop, standing, pull):
        """The first walker in order that is dragged moves; all ropes that drag it pull the same way."""
        found = list(troop.party.steps(standing, *pull))
        choose_first = lambda pairs: min(pairs, key=lambda pair: troop.walkers.index(pair[0]))
        choose_last = lambda pairs: min(pairs[::-1], key=lambda pair: troop.walkers.index(pair[0]))
        self.assertEqual(found, list(troop.drag(standing, pull, choose_first)))
        self.assertEqual(found, list(troop.drag(standing, pull, choose_last)))
        self.assertTrue(all(item.__class__ is tuple for item in found))
        self.assertEqual((found[0], found[-1]), (standing, troop.party.pull(*pull)(standing)))

    def test_each_standing_and_pull_of_small_parties(self):
        for troop in small_troops(seed=20, times=4):
            for standing in troop.legal_standings():
                for pull in troop.pulls():
                    self.check_steps(troop, standing, pull)

    def test_large_parties(self):
        chance = random.Random(21)
        for troop in some_troops(seed=22, times=4):
            for _ in range(8):
                self.check_steps(troop, troop.any_legal(chance), troop.any_pull(chance))

    def test_a_pull_to_where_the_walker_stands(self):
        for standing in (('a', 'a', 'a'), ('a', 'b', 'd'), ('e', 'e', 'c')):
            for at, walker in enumerate(W.walkers):
                self.assertEqual(list(P.steps(standing, walker, standing[at])), [standing])

    def test_arguments_by_name(self):
        self.assertEqual(list(P.steps(place='b', walker='p', standing=('a', 'a', 'a'))), [('a',) * 3, ('b', 'a', 'a')])

    def test_errors_in_their_order(self):
        for standing, word, at in ((('a', 'a'), 'form', -1), (None, 'form', -1), (('a', 'x', 'e'), 'place', 1),
                                   (('a', 'e', 'e'), 'rope', 1), (('a', 'a', 'e'), 'rope', 2), (True, 'form', -1)):
            for walker, place in itertools.product(('p', 'x'), ('a', 'x')):
                self.refuses(NoStanding, {'word': word, 'at': at}, steps_read, P, standing, walker, place)
        for name, place in itertools.product(STRANGERS, ('a', 'x', '')):
            self.refuses(NoWalker, {'walker': name}, steps_read, P, ('a', 'a', 'a'), name, place)
        for name, walker in itertools.product(STRANGERS, W.walkers):
            self.refuses(NoPlace, {'place': name}, steps_read, P, ('a', 'a', 'a'), walker, name)

    def test_any_value_as_standing(self):
        for value in (*ANY_VALUES, P, Length(1)):
            if value != ('a', 'b', 'c'):
                self.refuses(NoStanding, {'word': 'form', 'at': -1}, steps_read, P, value, 'p', 'a')

    def test_errors_are_raised_when_the_first_item_is_asked_for(self):
        P.steps(None, 'x', 'x')
        for values, kind, kept in (((None, 'x', 'x'), NoStanding, {'word': 'form'}),
                                   ((('a',) * 3, 'x', 'x'), NoWalker, {'walker': 'x'}),
                                   ((('a',) * 3, 'p', 'x'), NoPlace, {'place': 'x'})):
            self.refuses(kind, kept, first_item, P.steps(*values))

    def test_half_read_begun_again_and_read_within_one_another(self):
        whole = list(P.steps(('a', 'a', 'a'), 'p', 'e'))
        for many in range(7):
            iterator = P.steps(('a', 'a', 'a'), 'p', 'e')
            self.assertIs(iter(iterator), iterator)
            self.assertEqual([item for _, item in zip(range(many), iterator)], whole[:many])
            self.assertEqual(list(P.steps(('a', 'a', 'a'), 'p', 'e')), whole)
        found = [(one, other) for one in P.steps(('a', 'a', 'a'), 'p', 'e') for other in P.steps(('a', 'a', 'a'), 'p', 'e')]
        self.assertEqual(found, list(itertools.product(whole, repeat=2)))
        found = list(zip(P.steps(('a', 'a', 'a'), 'p', 'e'), EQUAL.steps(('a', 'a', 'a'), 'p', 'e'),
                         P.steps(('a', 'a', 'a'), 'r', 'd')))
        self.assertEqual([item[:2] for item in found], [(item, item) for item in whole][:len(found)])

    def test_other_calls_between_the_items(self):
        found = []
        for standing in P.steps(('a', 'a', 'a'), 'p', 'e'):
            found.append(standing)
            P.pull('r', 'a')(standing)
            list(P.steps(('e', 'e', 'e'), 'q', 'a'))
        self.assertEqual(found, list(P.steps(('a', 'a', 'a'), 'p', 'e')))

    def test_a_tight_rope_drags_all(self):
        party = Party(T, Web.complete(('p', 'q', 'r'), 0))
        self.assertEqual(list(party.steps(('a', 'a', 'a'), 'q', 'c')),
                         [('a', 'a', 'a'), ('a', 'b', 'a'), ('b', 'b', 'a'), ('b', 'b', 'b'),
                          ('b', 'c', 'b'), ('c', 'c', 'b'), ('c', 'c', 'c')])


class Document(TroopCase):

    def test_the_examples(self):
        self.assertEqual(list(P.steps(('a', 'a', 'a'), 'p', 'e')), [
            ('a', 'a', 'a'), ('b', 'a', 'a'), ('c', 'a', 'a'), ('c', 'b', 'a'), ('e', 'b', 'a'), ('e', 'c', 'a')])
        h = P.pull('p', 'e')
        self.assertEqual((h(('a', 'a', 'a')), h.groves[0].places, h.groves[1].places, len(h.groves[2]), h.forgotten),
                         (('e', 'c', 'a'), ('e',), ('c', 'e'), 5, ('p',)))


class Promise(TroopCase):
    """What section 3 promises of pulls and rows."""

    def test_a_row_done_twice_does_what_it_does_once(self):
        chance = random.Random(23)
        for troop in some_troops(seed=24):
            row = troop.any_row(chance, 8)
            self.assertEqual(troop.party.haul(row * 2), troop.party.haul(row))

    def test_each_walker_ends_as_near_as_it_can(self):
        for troop in small_troops(seed=25, times=1):
            for standing, pull in itertools.product(troop.legal_standings(), troop.pulls()):
                after, at = troop.party.pull(*pull)(standing), troop.walkers.index(pull[0])
                for other in troop.legal_standings():
                    if other[at] == pull[1]:
                        for here, there, before in zip(after, other, standing):
                            self.assertLessEqual(troop.land.distance(before, here), troop.land.distance(before, there))

    def test_rows_commute_exactly_if_their_groves_meet(self):
        chance = random.Random(26)
        for troop in some_troops(seed=27):
            row, other = troop.any_row(chance, 3), troop.any_row(chance, 3)
            one, two = troop.party.haul(row), troop.party.haul(other)
            self.assertIs(troop.party.haul(row + other) == troop.party.haul(other + row), one.apart(two) is None)


if __name__ == '__main__':
    unittest.main()
