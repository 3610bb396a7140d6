"""Rows that lead into a wish and lots that show that there is none: points 10, 12, 36 and 37, with 1, 2, 4 and 14."""

import itertools
import random
import time
import unittest

from tests.kit import ANY_VALUES
from tests.test_hauls import haul_with
from tests.troops import EQUAL, OTHERS, P, T, TroopCase, any_troop, small_troops, some_troops
from towgrove.errors import Broken, NoMatch, NoStanding
from towgrove.groves import Grove
from towgrove.hauls import Haul
from towgrove.lengths import Length
from towgrove.shapes import Way, Whole
from towgrove.wishes import lead_holds, lead_to

WISH = Haul(P, (Way(T, 'e', 'e'), Whole(T), Way(T, 'd', 'd')))
BOOK = (('r', 'd'), ('p', 'e'))
START = ('a', 'a', 'a')


class Quest:
    """A party with a book, a standing and a wish, and slow answers about them."""

    def __init__(self, troop, book, standing, members):
        self.troop, self.book, self.standing, self.members = troop, book, standing, members
        self.wish = haul_with(troop.party, members)
        self.given = troop.party, book, standing, self.wish
        self.pulls = [troop.pull_members(*pull) for pull in book]

    def is_wished(self, standing):
        return all(place in places for place, places in zip(standing, self.members))

    def reached(self):
        """All standings that rows of the book lead to."""
        found, waiting = {self.standing}, [self.standing]
        while waiting:
            here = waiting.pop()
            for pull in self.book:
                after = self.troop.after(here, pull)
                if after not in found:
                    found.add(after)
                    waiting.append(after)
        return found

    def row_holds(self, row):
        if row.__class__ is not tuple or any(pull not in self.book for pull in row) or len(set(row)) < len(row):
            return False
        standing = self.standing
        for pull in row:
            standing = self.troop.after(standing, pull)
        return self.is_wished(standing)

    def lot_holds(self, lot):
        if lot.__class__ is not Haul or lot.party != self.troop.party:
            return False
        lots, land = [grove.places for grove in lot.groves], self.troop.land
        if not all(set(inner) <= set(outer) for inner, outer in zip(self.members, lots)):
            return False
        if all(place in places for place, places in zip(self.standing, lots)):
            return False
        for groves in self.pulls:
            if all(set(one) & set(other) for one, other in zip(lots, groves)):
                if any(land.sources(one, other) != one for one, other in zip(lots, groves)):
                    return False
        return True

    def holds(self, answer):
        word, found = answer
        return word == 'row' and self.row_holds(found) or word == 'lot' and self.lot_holds(found)

    def changed_answers(self, chance):
        """Rows and lots that are like right ones, some of them right."""
        row = tuple(chance.sample(self.book, chance.randint(0, len(self.book))))
        for one in (row, row + row[:1], row[::-1], row[1:], row + (self.troop.any_pull(chance),)):
            yield 'row', one
        whole = [self.troop.land.places] * len(self.members)
        strange = [self.troop.land.any_grove(chance, least=1) for _ in self.members]
        for groves in (self.members, whole, strange, *[self.widened(self.members, chance) for _ in range(3)]):
            yield 'lot', haul_with(self.troop.party, groves)

    def widened(self, members, chance):
        """The same groves, some of them larger or smaller."""
        land, found = self.troop.land, []
        for places in members:
            extra = chance.choice(((), (), (chance.choice(land.places),)))
            found.append(land.hull(set(places) | set(extra)))
        return found


def quests(troops, seed, most=5, times=4):
    chance = random.Random(seed)
    for troop in troops:
        for _ in range(times):
            pulls = troop.pulls()
            book = tuple(chance.sample(pulls, min(len(pulls), chance.randint(0, most))))
            members = [troop.land.any_grove(chance, least=1) if chance.random() < 0.5 else troop.land.places
                       for _ in troop.walkers]
            yield Quest(troop, book, troop.any_legal(chance), members)


class LeadTo(TroopCase):

    def check_answer(self, quest, answer):
        self.assertIs(answer.__class__, tuple)
        self.assertEqual(len(answer), 2)
        self.assertTrue(quest.holds(answer), (quest.book, quest.standing, quest.members, answer))
        self.assertIs(lead_holds(*quest.given, answer), True)
        if answer[0] == 'lot':
            self.assertEqual(answer[1].party, quest.wish.party)
        return answer[0]

    def test_small_parties_against_all_standings_that_are_reached(self):
        seen = {'row': 0, 'lot': 0}
        for quest in quests(small_troops(seed=1, times=8), seed=1):
            word = self.check_answer(quest, lead_to(*quest.given))
            self.assertEqual(word, 'row' if any(map(quest.is_wished, quest.reached())) else 'lot')
            seen[word] += 1
        self.assertGreater(min(seen.values()), 50)

    def test_larger_parties(self):
        seen = {'row': 0, 'lot': 0}
        for quest in quests(some_troops(seed=2, times=3), seed=2, most=8):
            seen[self.check_answer(quest, lead_to(*quest.given))] += 1
        self.assertGreater(min(seen.values()), 20)

    def test_wishes_that_long_rows_lead_to(self):
        chance, longest = random.Random(3), 0
        for _ in range(40):
            troop = any_troop(chance.randint(5, 12), chance.randint(2, 6), chance)
            book = tuple(chance.sample(troop.pulls(), 8))
            standing = troop.any_legal(chance)
            last = standing
            for pull in chance.sample(book, 6):
                last = troop.after(last, pull)
            quest = Quest(troop, book, standing, [(place,) for place in last])
            answer = lead_to(*quest.given)
            self.assertEqual(self.check_answer(quest, answer), 'row')
            longest = max(longest, len(answer[1]))
        self.assertGreater(longest, 3)

    def test_a_standing_that_is_in_the_wish_already(self):
        for book in ((), BOOK, list(BOOK)):
            answer = lead_to(P, book, ('e', 'c', 'd'), WISH)
            self.assertEqual(answer[0], 'row')
            self.assertIs(lead_holds(P, book, ('e', 'c', 'd'), WISH, ('row', ())), True)

    def test_the_empty_book(self):
        answer = lead_to(P, (), START, WISH)
        self.assertEqual(answer[0], 'lot')
        self.assertIs(lead_holds(P, (), START, WISH, answer), True)
        self.assertIs(lead_holds(P, (), START, WISH, ('lot', WISH)), True)

    def test_lists_and_names(self):
        answer = lead_to(wish=WISH, standing=START, book=list(BOOK), party=P)
        self.assertEqual(answer[0], 'row')
        self.assertIs(answer[1].__class__, tuple)
        self.assertIs(lead_holds(answer=answer, wish=WISH, standing=START, book=list(BOOK), party=P), True)

    def test_a_wish_of_an_equal_party(self):
        for party, wish in ((P, Haul(EQUAL, WISH.groves)), (EQUAL, WISH)):
            self.assertEqual(lead_to(party, BOOK, START, wish)[0], 'row')
            word, lot = lead_to(party, BOOK[1:], START, wish)
            self.assertEqual((word, lot.party), ('lot', wish.party))
            self.assertIs(lead_holds(party, BOOK[1:], START, wish, (word, lot)), True)
            self.assertIs(lead_holds(party, BOOK[1:], START, wish, (word, Haul(P, lot.groves))), True)
            self.assertIs(lead_holds(party, BOOK[1:], START, wish, (word, Haul(EQUAL, lot.groves))), True)

    def test_the_arguments_do_not_change(self):
        book = list(BOOK)
        first = lead_to(P, book, START, WISH), lead_holds(P, book, START, WISH, ('row', BOOK))
        self.assertEqual(first, (lead_to(P, book, START, WISH), lead_holds(P, book, START, WISH, ('row', BOOK))))
        self.assertEqual((book, repr(WISH), WISH.groves[0].places), (list(BOOK), 'Haul(1, 5, 1)', ('e',)))

    def test_the_greatest_books_trees_and_parties(self):
        chance = random.Random(4)
        start = time.perf_counter()
        for _ in range(30):
            troop = any_troop(40, 6, chance)
            book = tuple(chance.sample(troop.pulls(), 12))
            last = standing = troop.any_legal(chance)
            for pull in book[:chance.randint(0, 12)]:
                last = troop.party.pull(*pull)(last)
            wish = haul_with(troop.party, [(place,) if chance.random() < 0.7 else troop.land.places for place in last])
            answer = lead_to(troop.party, book, standing, wish)
            self.assertIs(lead_holds(troop.party, book, standing, wish, answer), True)
        self.assertLess(time.perf_counter() - start, 60)


class LeadHolds(TroopCase):

    def test_answers_that_are_changed(self):
        chance, seen = random.Random(5), {}
        for quest in quests(small_troops(seed=6, times=6), seed=6):
            right = lead_to(*quest.given)
            answers = list(quest.changed_answers(chance))
            if right[0] == 'lot':
                groves = [grove.places for grove in right[1].groves]
                answers += [('lot', haul_with(quest.troop.party, quest.widened(groves, chance))) for _ in range(4)]
            for answer in answers:
                wanted = quest.holds(answer)
                self.assertIs(lead_holds(*quest.given, answer), wanted, answer)
                seen[answer[0], wanted] = seen.get((answer[0], wanted), 0) + 1
        self.assertEqual(len(seen), 4)
        self.assertGreater(min(seen.values()), 30, seen)

    def test_any_value(self):
        lot = lead_to(P, BOOK[1:], START, WISH)[1]
        for book in (BOOK, BOOK[1:], ()):
            for value in (*ANY_VALUES, P, T, WISH, lot, Length(1)):
                answers = [value, (value,), ('row', value), ('lot', value), (value, BOOK), (value, lot), ('row', (value,)),
                           ('row', BOOK, value), ('lot', lot, value), ('row', (*BOOK, value)), (value, value)]
                for answer in answers:
                    right = answer == ('lot', lot) and answer[1].__class__ is Haul and book == BOOK[1:]
                    right = right or book == () and answer == ('lot', WISH) or book == () and answer == ('lot', lot)
                    self.assertIs(lead_holds(P, book, START, WISH, answer), right, (book, answer))

    def test_rows(self):
        for row, holds in ((BOOK, True), (BOOK[::-1], True), (BOOK[:1], False), (BOOK[1:], False), ((), False),
                           (BOOK + BOOK, False), (BOOK + BOOK[:1], False), (list(BOOK), False), (BOOK + (('p', 'd'),), False),
                           ((('p', 'd'), *BOOK), False), ((('r', 'd'), ('p', 'e', 'e')), False), ((list(BOOK[0]), BOOK[1]), False),
                           ((BOOK,), False), (BOOK + (WISH,), False), ('row', False), (None, False)):
            self.assertIs(lead_holds(P, BOOK, START, WISH, ('row', row)), holds, row)
        for answer in (('Row', BOOK), ('rows', BOOK), ['row', BOOK], ('row',), ('row', BOOK, None), (BOOK, 'row'), 'row',
                       ('lot', BOOK), (True, BOOK), (WISH, BOOK)):
            self.assertIs(lead_holds(P, BOOK, START, WISH, answer), False, answer)

    def test_lots_of_other_parties(self):
        lot = lead_to(P, BOOK[1:], START, WISH)[1]
        self.assertIs(lead_holds(P, BOOK[1:], START, WISH, ('lot', lot)), True)
        for party in OTHERS:
            still = Haul.still(party)
            self.assertIs(lead_holds(P, BOOK[1:], START, WISH, ('lot', still)), False)
            if party.tree == T and len(party.walkers) == 3:
                self.assertIs(lead_holds(P, BOOK[1:], START, WISH, ('lot', Haul(party, lot.groves))), False)

    def test_each_demand_on_a_lot(self):
        book = (('p', 'e'), ('q', 'a'))
        wish = haul_with(P, [('e',), T.places, ('d',)])
        lot = lead_to(P, book, START, wish)[1]
        self.assertIs(lead_holds(P, book, START, wish, ('lot', lot)), True)
        smaller = Haul(P, (lot.groves[0], Grove(T, ('c',)), lot.groves[2]))
        self.assertIs(lead_holds(P, book, START, wish, ('lot', smaller)), False)
        self.assertIs(lead_holds(P, book, START, wish, ('lot', Haul.still(P))), False)
        self.assertIs(lead_holds(P, book, START, wish, ('lot', wish)), False)

    def test_lots_that_the_wish_is_not_within(self):
        for groves in ([('d',)] * 3, [('e',), ('d',), ('d',)], [('e',), T.places, ('c',)], [('e',), ('c', 'd', 'e'), ('d',)]):
            self.assertIs(lead_holds(P, (), START, WISH, ('lot', haul_with(P, groves))), False)
        self.assertIs(lead_holds(P, (), START, WISH, ('lot', haul_with(P, [('e',), T.places, ('c', 'd')]))), True)


class Refusing(TroopCase):

    def refused(self, kind, kept, party, book, standing, wish):
        self.refuses(kind, kept, lead_to, party, book, standing, wish)
        for answer in (('row', ()), None, ('row', tuple(book))):
            self.refuses(kind, kept, lead_holds, party, book, standing, wish, answer)

    def test_books_with_an_item_that_is_no_pull(self):
        other = Haul.still(OTHERS[0])
        for value in (*ANY_VALUES, P, ('p', T), ('x', 'a'), ('p', 'x'), ('a', 'p'), ('p', 'a', 'a')):
            for before in range(3):
                for standing, wish in ((START, WISH), (None, WISH), (('a', 'a', 'e'), other)):
                    book = BOOK[:before] + (value, None)
                    self.refused(Broken, {'at': before}, P, book, standing, wish)
                    self.refused(Broken, {'at': before}, P, list(book), standing, wish)

    def test_pulls_that_come_twice(self):
        one, two, three = ('p', 'e'), ('r', 'd'), ('q', 'a')
        for book, at in (((one, one), 1), ((one, two, one), 2), ((one, two, two, one), 2), ((one, two, three, two), 3),
                         ((one, one, None), 1), ((one, None, one), 1), ((one, ('x', 'a'), one), 1)):
            for standing in (START, None):
                self.refused(Broken, {'at': at}, P, book, standing, WISH)
                self.refused(Broken, {'at': at}, P, list(book), standing, Haul.still(OTHERS[0]))

    def test_standings_that_are_not_legal(self):
        for standing, word, at in ((('a', 'a'), 'form', -1), (None, 'form', -1), (('a', 'x', 'e'), 'place', 1),
                                   (('a', 'e', 'e'), 'rope', 1), (('a', 'a', 'e'), 'rope', 2)):
            for book, wish in itertools.product((BOOK, ()), (WISH, Haul.still(OTHERS[0]))):
                self.refused(NoStanding, {'word': word, 'at': at}, P, book, standing, wish)
        for value in ANY_VALUES:
            if value != ('a', 'b', 'c'):
                self.refused(NoStanding, {'word': 'form', 'at': -1}, P, BOOK, value, WISH)

    def test_wishes_of_another_party(self):
        for party in OTHERS:
            for book in (BOOK, ()):
                self.refused(NoMatch, {'word': 'party'}, P, book, START, Haul.still(party))
                self.refused(NoMatch, {'word': 'party'}, P, book, START, party.haul_of(('p', 'a')))


class Document(TroopCase):

    def test_the_example(self):
        self.assertEqual((lead_holds(P, BOOK, START, WISH, ('row', BOOK)), lead_to(P, (('p', 'e'),), START, WISH)[0]),
                         (True, 'lot'))


if __name__ == '__main__':
    unittest.main()
