"""All hauls of the rows of a book: points 12 and 39, with 1, 2, 3, 4, 10 and 14."""

import itertools
import random
import time
import unittest

from tests.kit import ANY_VALUES, first_item
from tests.troops import EQUAL, P, T, TroopCase, any_troop, small_troops, some_troops
from towgrove.effects import effect_of, effects
from towgrove.errors import Broken
from towgrove.hauls import Haul

BOOK = (('p', 'e'), ('r', 'd'), ('p', 'a'), ('q', 'c'))


def slow_effects(troop, book):
    """Each row without repeated pulls, in order, whose groves no row before has, with these groves."""
    found = {}
    for many in range(len(book) + 1):
        for row in itertools.permutations(book, many):
            found.setdefault(tuple(troop.dragged_members(row)), row)
    return [(row, list(members)) for members, row in found.items()]


def books(troops, seed, most=4, times=3):
    chance = random.Random(seed)
    for troop in troops:
        for _ in range(times):
            pulls = troop.pulls()
            yield troop, tuple(chance.sample(pulls, min(len(pulls), chance.randint(0, most))))


class Effects(TroopCase):

    def check_pairs(self, troop, book, pairs):
        wanted = slow_effects(troop, book)
        self.assertEqual([row for row, _ in pairs], [row for row, _ in wanted])
        for pair, (_, members) in zip(pairs, wanted):
            self.assertIs(pair.__class__, tuple)
            self.assertIs(pair[0].__class__, tuple)
            self.check_haul(pair[1], troop.party, members)

    def test_small_books_against_all_rows(self):
        many = 0
        for troop, book in books(itertools.chain(small_troops(seed=1, times=3), some_troops(seed=1, times=1)), seed=1):
            for given in (book, list(book)):
                pairs = list(effects(troop.party, given))
                self.check_pairs(troop, book, pairs)
            many += len(pairs) > 5
        self.assertGreater(many, 20)

    def test_books_of_five_pulls(self):
        chance = random.Random(2)
        for many, walkers in ((5, 3), (7, 2), (9, 4)):
            troop = any_troop(many, walkers, chance)
            book = tuple(chance.sample(troop.pulls(), 5))
            self.check_pairs(troop, book, list(effects(troop.party, book)))

    def test_all_pulls_of_one_walker_have_many_hauls(self):
        troop = any_troop(6, 1, random.Random(3))
        book = tuple(troop.pulls()[:5])
        self.assertEqual([row for row, _ in effects(troop.party, book)], [()] + [(pull,) for pull in book])

    def test_rows_with_repeated_pulls_have_no_other_hauls(self):
        chance = random.Random(4)
        for troop, book in books(small_troops(seed=4, times=3), seed=4):
            hauls = [haul for _, haul in effects(troop.party, book)]
            for _ in range(10):
                row = tuple(chance.choice(book) for _ in range(chance.randint(0, 9))) if book else ()
                self.assertEqual(hauls.count(troop.party.haul(row)), 1)

    def test_the_order_is_that_of_the_book_and_not_of_the_names(self):
        for book in itertools.permutations(BOOK[:3]):
            rows = [row for row, _ in effects(P, book)]
            self.assertEqual(rows, sorted(rows, key=lambda row: (len(row), [book.index(pull) for pull in row])))
            self.assertEqual(rows[:4], [(), *[(pull,) for pull in book]])

    def test_the_empty_book(self):
        for book in ((), []):
            pairs = list(effects(P, book))
            self.assertEqual(len(pairs), 1)
            self.assertEqual(pairs[0], ((), Haul.still(P)))
            self.assertIs(pairs[0][1].party, P)

    def test_pulls_that_move_nobody_have_the_haul_of_the_empty_row(self):
        troop = any_troop(1, 3, random.Random(5))
        book = tuple(troop.pulls())
        self.assertEqual(list(effects(troop.party, book)), [((), Haul.still(troop.party))])
        self.assertEqual(effect_of(troop.party, book, book), ())

    def test_the_party_is_the_one_that_is_given(self):
        for party in (P, EQUAL):
            pairs = list(effects(book=BOOK, party=party))
            self.assertTrue(all(haul.party is party for _, haul in pairs))
            self.assertEqual(pairs, list(effects(P, BOOK)))

    def test_half_read_begun_again_and_read_within_one_another(self):
        whole = list(effects(P, BOOK))
        self.assertGreater(len(whole), 10)
        half = effects(P, BOOK)
        self.assertEqual([next(half) for _ in range(4)], whole[:4])
        self.assertEqual(list(effects(P, BOOK)), whole)
        found = []
        for one in effects(P, BOOK):
            found.append((one, list(effects(P, list(BOOK)))))
        self.assertEqual(found, [(one, whole) for one in whole])
        self.assertEqual(list(half), whole[4:])
        one, other = effects(P, BOOK), effects(P, BOOK[::-1])
        mixed = [(next(one), next(other)) for _ in range(8)]
        self.assertEqual([pair[0] for pair in mixed], whole[:8])
        self.assertEqual([pair[1] for pair in mixed], list(effects(P, BOOK[::-1]))[:8])

    def test_the_book_does_not_change(self):
        book = list(BOOK)
        list(effects(P, book))
        effect_of(P, book, book * 2)
        self.assertEqual(book, list(BOOK))

    def test_the_greatest_books_trees_and_parties(self):
        chance = random.Random(6)
        start = time.perf_counter()
        for _ in range(20):
            troop = any_troop(40, 6, chance)
            book = tuple(chance.sample(troop.pulls(), 5))
            pairs = list(effects(troop.party, book))
            for row, haul in pairs[::17]:
                self.assertEqual(troop.party.haul(row), haul)
            self.assertEqual(effect_of(troop.party, book, book * 8), effect_of(troop.party, book, book))
        self.assertLess(time.perf_counter() - start, 60)


class EffectOf(TroopCase):

    def test_the_row_that_comes_with_the_haul(self):
        chance = random.Random(7)
        for troop, book in books(itertools.chain(small_troops(seed=7, times=3), some_troops(seed=7, times=1)), seed=7):
            rows = [(row, tuple(members)) for row, members in slow_effects(troop, book)]
            for _ in range(6):
                row = tuple(chance.choice(book) for _ in range(chance.randint(0, 8))) if book else ()
                members = tuple(troop.dragged_members(row))
                wanted = [first for first, others in rows if others == members]
                for given in (row, list(row)):
                    found = effect_of(troop.party, list(book), given)
                    self.assertIs(found.__class__, tuple)
                    self.assertEqual([found], wanted)

    def test_each_row_of_effects_comes_with_itself(self):
        for row, _ in effects(P, BOOK):
            self.assertEqual(effect_of(P, BOOK, row), row)
            self.assertEqual(effect_of(P, BOOK, row + row), row)

    def test_rows_with_repeated_pulls(self):
        one, two = book = BOOK[:3:2]
        self.assertEqual(effect_of(P, book, (one, one)), (one,))
        self.assertEqual(effect_of(P, book, (one, two, one)), (two, one))
        self.assertEqual(effect_of(row=[two, one] * 20, book=book, party=P), (two, one))
        self.assertEqual(effect_of(P, BOOK, ()), ())

    def test_rows_of_the_empty_book(self):
        self.assertEqual(effect_of(P, (), ()), ())
        self.refuses(Broken, {'at': 0}, effect_of, P, (), BOOK)


class Refusing(TroopCase):

    def refused(self, at, book):
        for given in (book, list(book)):
            iterator = effects(P, given)
            self.refuses(Broken, {'at': at}, first_item, iterator)
            for row in ((), (('x', 'x'),), (None,), book):
                self.refuses(Broken, {'at': at}, effect_of, P, given, row)

    def test_books_with_an_item_that_is_no_pull(self):
        for value in (*ANY_VALUES, P, ('p', T), ('x', 'a'), ('p', 'x'), ('a', 'p'), ('p', 'a', 'a')):
            for before in range(4):
                self.refused(before, BOOK[:before] + (value, None))

    def test_pulls_that_come_twice(self):
        one, two, three = BOOK[:3]
        for book, at in (((one, one), 1), ((one, two, one), 2), ((one, two, two, one), 2), ((one, two, three, two), 3),
                         ((one, one, None), 1), ((one, None, one), 1)):
            self.refused(at, book)

    def test_rows_with_an_item_that_is_not_in_the_book(self):
        for value in (*ANY_VALUES, P, ('p', 'b'), ('x', 'a'), ('p', 'e', 'e'), ['p', 'e'], (('p', 'e'),)):
            for before in range(4):
                row = BOOK[:before] + (value, None)
                self.refuses(Broken, {'at': before}, effect_of, P, BOOK, row)
                self.refuses(Broken, {'at': before}, effect_of, P, list(BOOK), list(row))
        for at, pull in enumerate(BOOK):
            book = BOOK[:at] + BOOK[at + 1:]
            self.refuses(Broken, {'at': at}, effect_of, P, book, BOOK)
            self.refuses(Broken, {'at': 0}, effect_of, P, book, (pull, *book, pull))

    def test_errors_come_with_the_first_item(self):
        iterator = effects(P, (None,))
        self.refuses(Broken, {'at': 0}, next, iterator)


class Document(TroopCase):

    def test_the_example(self):
        found = list(effects(P, (('p', 'e'), ('p', 'a'))))
        self.assertEqual((len(found), found[0][0], found[3][0]), (5, (), (('p', 'e'), ('p', 'a'))))


if __name__ == '__main__':
    unittest.main()
