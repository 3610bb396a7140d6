"""Rows: point 35, with points 2, 4, 10, 12 and 14."""

import itertools
import random
import unittest

from tests.kit import ANY_VALUES
from tests.troops import P, TroopCase, small_troops, some_troops
from towgrove.errors import Broken
from towgrove.rows import counting, parting, shortened, trimmed


def any_rows(seed, times=6, most=7):
    """Parties with rows, many of them with repeated pulls."""
    chance = random.Random(seed)
    for troop in itertools.chain(small_troops(seed), some_troops(seed, times=1)):
        for _ in range(times):
            few = [troop.any_pull(chance) for _ in range(3)]
            yield troop, troop.any_row(chance, most, choice=chance.choice((None, few)))


def left_out(row, at):
    return row[:at] + row[at + 1:]


class Shortened(TroopCase):

    def test_pulls_that_come_again_later_are_left_out(self):
        for troop, row in any_rows(1):
            wanted = tuple(pull for at, pull in enumerate(row) if pull not in row[at + 1:])
            for given in (row, list(row)):
                found = shortened(given)
                self.assertIs(found.__class__, tuple)
                self.assertEqual(found, wanted)
            self.assertEqual(troop.party.haul(wanted), troop.party.haul(row))

    def test_pulls_of_any_two_strings(self):
        row = (('', 'A b'), ('x', 'y'), ('', 'A b'), ('y', 'x'), ('x', '\n'))
        self.assertEqual(shortened(row), row[1:])
        self.assertEqual(shortened(row=list(row * 3)), row[1:])
        self.assertEqual((shortened(()), shortened([]), shortened([('p', 'p')] * 40)), ((), (), (('p', 'p'),)))

    def test_pulls_of_one_walker_to_two_places_both_stay(self):
        self.assertEqual(shortened((('p', 'e'), ('p', 'a'), ('q', 'a'), ('p', 'e'))), (('p', 'a'), ('q', 'a'), ('p', 'e')))

    def test_the_argument_does_not_change(self):
        row = [('p', 'e'), ('q', 'a'), ('p', 'e')]
        shortened(row)
        self.assertEqual(row, [('p', 'e'), ('q', 'a'), ('p', 'e')])


class Counting(TroopCase):

    def test_each_pull_left_out_alone(self):
        for troop, row in any_rows(2):
            members = troop.row_members(row)
            wanted = tuple(at for at in range(len(row)) if troop.row_members(left_out(row, at)) != members)
            for given in (row, list(row)):
                found = counting(troop.party, given)
                self.assertIs(found.__class__, tuple)
                self.assertEqual(found, wanted)

    def test_small_rows(self):
        self.assertEqual(counting(P, ()), ())
        self.assertEqual(counting(party=P, row=(('p', 'e'), ('p', 'e'))), ())
        self.assertEqual(counting(P, (('p', 'e'), ('p', 'a'))), (0, 1))
        self.assertEqual(counting(P, (('p', 'e'), ('r', 'd'), ('p', 'e'), ('q', 'c'))), (1, 3))


class Trimmed(TroopCase):

    def trim(self, troop, row):
        members, at = troop.row_members(row), 0
        while at < len(row):
            if troop.row_members(left_out(row, at)) == members:
                row = left_out(row, at)
            else:
                at += 1
        return row

    def test_pulls_are_left_out_from_first_to_last(self):
        for troop, row in any_rows(3):
            wanted = self.trim(troop, row)
            for given in (row, list(row)):
                found = trimmed(troop.party, given)
                self.assertIs(found.__class__, tuple)
                self.assertEqual(found, wanted)
            self.assertEqual(troop.party.haul(wanted), troop.party.haul(row))
            self.assertEqual(trimmed(troop.party, wanted), wanted)

    def test_small_rows(self):
        self.assertEqual(trimmed(P, []), ())
        self.assertEqual(trimmed(party=P, row=[('p', 'e')] * 3), (('p', 'e'),))
        row = (('p', 'e'), ('r', 'd'), ('p', 'e'), ('q', 'c'))
        self.assertEqual(trimmed(P, row), row[1:])


class Parting(TroopCase):

    def test_pairs_of_rows(self):
        chance, seen = random.Random(4), {True: 0, False: 0}
        for troop, row in any_rows(4):
            mixed = list(row)
            chance.shuffle(mixed)
            for other in (shortened(row), row[1:], mixed, troop.any_row(chance, 4), list(row)):
                found = parting(troop.party, row, other)
                members, others = troop.row_members(row), troop.row_members(other)
                seen[found is None] += 1
                if members == others:
                    self.assertIsNone(found)
                else:
                    self.assertIs(found.__class__, tuple)
                    self.assertEqual(len(found), len(troop.walkers))
                    self.assertTrue(all(place in troop.land.places for place in found))
                    self.assertIsNone(troop.strained(found))
                    self.assertNotEqual(troop.gates(members, found), troop.gates(others, found))
        self.assertGreater(min(seen.values()), 50)

    def test_by_name(self):
        self.assertIsNone(parting(party=P, row=(), other=[]))
        self.assertIsNone(parting(P, other=(('p', 'e'),), row=(('p', 'e'), ('p', 'e'))))
        found = parting(P, (('p', 'e'),), ())
        self.assertNotEqual(P.pull('p', 'e')(found), found)


class Long(TroopCase):

    def test_rows_of_forty_pulls(self):
        chance = random.Random(5)
        for troop in some_troops(6, times=1):
            few = [troop.any_pull(chance) for _ in range(12)]
            row = tuple(chance.choice(few) for _ in range(40))
            party, haul = troop.party, troop.party.haul(row)
            self.assertEqual(counting(party, row), tuple(
                at for at in range(40) if party.haul(left_out(row, at)) != haul))
            found, at = row, 0
            while at < len(found):
                found, at = (left_out(found, at), at) if party.haul(left_out(found, at)) == haul else (found, at + 1)
            self.assertEqual(trimmed(party, row), found)
            self.assertIsNone(parting(party, row, found))


class Refusing(TroopCase):

    def broken(self, at, work, *values):
        self.refuses(Broken, {'at': at}, work, P, *values)

    def test_any_value_in_the_place_of_a_pull(self):
        for value in (*ANY_VALUES, P, ('p', P)):
            for before in range(3):
                row = (('p', 'a'), ('r', 'e'))[:before] + (value, None)
                for work in (counting, trimmed):
                    self.broken(before, work, row)
                    self.broken(before, work, list(row))
                self.broken(before, parting, row, ())
                self.broken(before, parting, [('p', 'a')], list(row))
                self.broken(before, parting, row, (None,))

    def test_walkers_and_places_that_are_none(self):
        for pull in (('x', 'a'), ('p', 'x'), ('a', 'p'), ('P', 'a'), ('p', 'a', 'a'), ('p',)):
            for work in (counting, trimmed):
                self.broken(1, work, (('p', 'a'), pull))
            self.broken(2, parting, (('p', 'a'), ('q', 'a'), pull), (pull,))
            self.broken(0, parting, (('p', 'a'), ('q', 'a')), (pull,))


class Document(TroopCase):

    def test_the_example(self):
        row = (('p', 'e'), ('r', 'd'), ('p', 'e'), ('q', 'c'))
        self.assertEqual((shortened(row), trimmed(P, (('p', 'e'), ('p', 'a')))),
                         ((('r', 'd'), ('p', 'e'), ('q', 'c')), (('p', 'e'), ('p', 'a'))))


if __name__ == '__main__':
    unittest.main()
