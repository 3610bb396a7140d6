"""Rows that all leave a standing alone, and rows that commute: points 12 and 38, with 1, 2, 4 and 14."""

import itertools
import random
import time
import unittest

from tests.kit import ANY_VALUES
from tests.lands import Land
from tests.troops import EQUAL, P, T, W, Troop, TroopCase, any_troop, small_troops, some_troops
from towgrove.errors import Broken
from towgrove.hauls import Haul
from towgrove.lengths import Length
from towgrove.rests import commute, common_rest, rest_holds

TROOP = Troop(Land(T.places, T.edges), W)
ROWS = ((('p', 'e'),), (('r', 'd'),), (('q', 'a'),))


class Question:
    """A party with rows, and slow answers about them."""

    def __init__(self, troop, rows):
        self.troop, self.party, self.rows = troop, troop.party, rows
        self.members = [troop.dragged_members(row) for row in rows]

    def rests(self):
        """Each legal standing that no row changes, found by doing them."""
        return [standing for standing in self.troop.legal_standings()
                if all(self.troop.dragged(standing, row) == standing for row in self.rows)]

    def holds(self, answer):
        if answer.__class__ is not tuple:
            return False
        if len(answer) == 2 and answer[0] == 'standing':
            return self.standing_holds(answer[1])
        return len(answer) == 4 and answer[0] == 'apart' and self.apart_holds(*answer[1:])

    def standing_holds(self, standing):
        if standing.__class__ is not tuple or len(standing) != len(self.troop.walkers):
            return False
        if any(place not in self.troop.land.places for place in standing) or self.troop.strained(standing) is not None:
            return False
        return all(place in places for members in self.members for place, places in zip(standing, members))

    def apart_holds(self, one, other, walker):
        if one.__class__ is not int or other.__class__ is not int or not 0 <= one < other < len(self.rows):
            return False
        if walker not in self.troop.walkers:
            return False
        at = self.troop.walkers.index(walker)
        return not set(self.members[one][at]) & set(self.members[other][at])

    def near_answers(self, chance):
        """Answers of both kinds, of which many are wrong."""
        walkers = self.troop.walkers
        for standing in chance.sample(self.troop.standings(), min(8, len(self.troop.standings()))):
            yield 'standing', standing
        for one, other in itertools.product(range(-1, len(self.rows) + 1), repeat=2):
            yield 'apart', one, other, chance.choice(walkers)


def questions(troops, seed, most=4, long=4, times=4):
    chance = random.Random(seed)
    for troop in troops:
        for _ in range(times):
            few = chance.choice((None, [troop.any_pull(chance) for _ in range(3)]))
            yield Question(troop, tuple(troop.any_row(chance, long, choice=few) for _ in range(chance.randint(0, most))))


class CommonRest(TroopCase):

    def check_answer(self, question, answer):
        self.assertIs(answer.__class__, tuple)
        self.assertTrue(question.holds(answer), (question.rows, answer))
        self.assertIs(rest_holds(question.party, question.rows, answer), True)
        return answer[0]

    def test_small_parties_against_all_legal_standings(self):
        seen = {'standing': 0, 'apart': 0}
        for question in questions(small_troops(seed=1, times=5), seed=1):
            word = self.check_answer(question, common_rest(question.party, question.rows))
            rests = question.rests()
            self.assertEqual(word, 'standing' if rests else 'apart')
            seen[word] += 1
            for standing in question.troop.legal_standings():
                self.assertIs(rest_holds(question.party, question.rows, ('standing', standing)), standing in rests)
        self.assertGreater(min(seen.values()), 50)

    def test_larger_parties(self):
        seen = {'standing': 0, 'apart': 0}
        for question in questions(some_troops(seed=2, times=2), seed=2, most=8):
            seen[self.check_answer(question, common_rest(question.party, question.rows))] += 1
        self.assertGreater(min(seen.values()), 20)

    def test_each_pair_of_pulls_of_a_small_party(self):
        for troop in (TROOP, any_troop(3, 3, random.Random(5)), any_troop(4, 2, random.Random(6))):
            for pulls in itertools.product(troop.pulls(), repeat=2):
                question = Question(troop, tuple((pull,) for pull in pulls))
                word = self.check_answer(question, common_rest(troop.party, question.rows))
                self.assertEqual(word, 'standing' if question.rests() else 'apart')

    def test_no_rows(self):
        for troop in small_troops(seed=3, times=1):
            for rows in ((), []):
                answer = common_rest(troop.party, rows)
                self.assertEqual((answer[0], len(answer)), ('standing', 2))
                self.assertIs(answer[1].__class__, tuple)
                self.assertIn(answer[1], troop.legal_standings())
            for standing in troop.standings():
                self.assertIs(rest_holds(troop.party, (), ('standing', standing)), troop.strained(standing) is None)

    def test_empty_rows(self):
        for rows in (((),), ([], ()), [[], ROWS[0], ()]):
            answer = common_rest(P, rows)
            self.assertEqual(answer[0], 'standing')
            self.assertIs(rest_holds(P, rows, answer), True)
        self.assertIs(rest_holds(P, ((), []), ('apart', 0, 1, 'p')), False)

    def test_equal_rows(self):
        for row in (ROWS[0], (('p', 'a'), ('p', 'e'), ('r', 'a')), ()):
            for rows in ((row, row), [list(row), row, row] * 2, (row,) * 8):
                self.assertEqual(common_rest(P, rows)[0], 'standing')

    def test_one_row_always_leaves_a_standing_alone(self):
        chance = random.Random(4)
        for troop in some_troops(seed=4, times=1):
            row = troop.any_row(chance, 8)
            answer = common_rest(troop.party, [row])
            self.assertEqual(answer[0], 'standing')
            self.assertEqual(troop.dragged(answer[1], row), answer[1])

    def test_lists_and_names(self):
        for rows in (ROWS, list(ROWS), [list(row) for row in ROWS]):
            answer = common_rest(rows=rows, party=P)
            self.assertEqual((answer[0], len(answer)), ('apart', 4))
            self.assertIs(rest_holds(answer=answer, rows=rows, party=P), True)
        self.assertIs(commute(other=[('q', 'a')], party=P, row=ROWS[0]), False)
        self.assertIs(commute(other=ROWS[1], row=[('p', 'e')], party=P), True)

    def test_an_equal_party(self):
        answer = common_rest(EQUAL, ROWS)
        self.assertIs(rest_holds(P, ROWS, answer), True)
        self.assertEqual(common_rest(P, ROWS), answer)

    def test_the_arguments_do_not_change(self):
        rows = [[('p', 'e')], [('r', 'd'), ('r', 'd')]]
        first = common_rest(P, rows)
        self.assertIs(rest_holds(P, rows, first), True)
        self.assertIs(commute(P, *rows), True)
        self.assertEqual(rows, [[('p', 'e')], [('r', 'd'), ('r', 'd')]])
        self.assertEqual(common_rest(P, rows), first)

    def test_eight_rows_of_forty_pulls(self):
        chance, seen = random.Random(7), set()
        start = time.perf_counter()
        for _ in range(12):
            troop = any_troop(40, 6, chance)
            few = [troop.any_pull(chance) for _ in range(30)]
            ends = [troop.any_pull(chance) for _ in range(chance.choice((1, 1, 3)))]
            rows = [tuple(chance.choice(few) for _ in range(40 - len(ends))) + tuple(ends) for _ in range(8)]
            answer = common_rest(troop.party, rows)
            self.assertIs(rest_holds(troop.party, rows, answer), True)
            self.assertTrue(Question(troop, rows).holds(answer))
            seen.add(answer[0])
        self.assertEqual(seen, {'standing', 'apart'})
        self.assertLess(time.perf_counter() - start, 60)


class RestHolds(TroopCase):

    def test_near_answers(self):
        chance, seen = random.Random(8), {}
        for question in questions(small_troops(seed=8, times=5), seed=8):
            for answer in question.near_answers(chance):
                wanted = question.holds(answer)
                for rows in (question.rows, [list(row) for row in question.rows]):
                    self.assertIs(rest_holds(question.party, rows, answer), wanted, (rows, answer))
                seen[answer[0], wanted] = seen.get((answer[0], wanted), 0) + 1
        self.assertEqual(len(seen), 4)
        self.assertGreater(min(seen.values()), 50, seen)

    def test_any_value(self):
        for rows in (ROWS, ROWS[:2], ()):
            for value in (*ANY_VALUES, P, T, W, Length(1), Haul.still(P), ['standing', ('e', 'c', 'd')]):
                for answer in (value, (value,), ('standing', value), ('apart', value), (value, ('e', 'c', 'd')),
                               ('standing', (value, 'c', 'd')), ('standing', ('e', value, 'd')), ('standing', ('e', 'c', value)),
                               ('standing', ('e', 'c', 'd'), value), ('apart', 0, 2, value), ('apart', value, 2, 'p'),
                               ('apart', 0, value, 'p'), (value, 0, 2, 'p'), ('apart', 0, 2, 'p', value),
                               ('apart', value, value, value), [value], ('standing', [value] * 3)):
                    self.assertIs(rest_holds(P, rows, answer), Question(TROOP, rows).holds(answer), (rows, answer))

    def test_true_and_false_are_no_indexes(self):
        rows = (ROWS[0], ROWS[2], ROWS[0], ROWS[2])
        for one, other in ((0, 1), (0, 3), (1, 2), (2, 3)):
            self.assertIs(rest_holds(P, rows, ('apart', one, other, 'p')), True)
        for one, other in ((False, 1), (0, True), (False, True), (True, 2), (False, 3), (True, True), (False, 3)):
            self.assertIs(rest_holds(P, rows, ('apart', one, other, 'p')), False)

    def test_indexes(self):
        rows = (ROWS[0], ROWS[2], ROWS[0])
        for one, other, holds in ((0, 1, True), (1, 2, True), (1, 0, False), (2, 1, False), (0, 2, False), (0, 0, False),
                                  (1, 1, False), (0, 3, False), (-1, 1, False), (-3, -2, False), (0, -2, False), (1, 10 ** 30, False),
                                  (-10 ** 30, 1, False)):
            self.assertIs(rest_holds(P, rows, ('apart', one, other, 'p')), holds, (one, other))

    def test_walkers(self):
        rows = (ROWS[0], ROWS[2])
        for walker, holds in (('p', True), ('q', True), ('r', False), ('x', False), ('a', False), ('', False), (None, False),
                              (0, False), (('p',), False)):
            self.assertIs(rest_holds(P, rows, ('apart', 0, 1, walker)), holds, walker)

    def test_standings(self):
        rows = ROWS[:2]
        for standing, holds in ((('e', 'c', 'd'), True), (['e', 'c', 'd'], False), (('e', 'c'), False), (('e', 'c', 'd', 'd'), False),
                                (('d', 'c', 'e'), False), (('e', 'c', 'x'), False), (('e', 'e', 'd'), True), (('e', 'b', 'd'), False),
                                ((), False), ('ecd', False), ((('e', 'c', 'd'),), False)):
            self.assertIs(rest_holds(P, rows, ('standing', standing)), holds, standing)

    def test_standings_that_each_row_leaves_alone_but_that_are_not_legal(self):
        rows = ((('p', 'e'), ('r', 'a')),)
        for standing in TROOP.standings():
            if standing in P.haul(rows[0]):
                legal = TROOP.strained(standing) is None
                self.assertIs(rest_holds(P, rows, ('standing', standing)), legal)
        self.assertIs(rest_holds(P, (), ('standing', ('a', 'e', 'e'))), False)

    def test_words(self):
        right = ('e', 'c', 'd')
        for answer in (('Standing', right), ('stand', right), ('rest', right), ('', right), ('apart', right), (right, 'standing'),
                       ('standing',), ('standing', right, right), ['standing', right], right, 'standing', ('standing', 0, 2, 'p')):
            self.assertIs(rest_holds(P, ROWS[:2], answer), False)
        for answer in (('Apart', 0, 2, 'p'), ('apart', 0, 2), (0, 2, 'p'), ('apart', (0, 2), 'p'), ('apart', 0, 2, 'p', 'p'),
                       ['apart', 0, 2, 'p'], ('standing', 0, 2, 'p'), ('apart', (0, 2, 'p')), ('apart',), ()):
            self.assertIs(rest_holds(P, ROWS, answer), False)


class Commute(TroopCase):

    def test_both_orders_of_two_rows(self):
        chance, seen = random.Random(9), {True: 0, False: 0}
        for troop in itertools.chain(small_troops(seed=9, times=3), some_troops(seed=9, times=1)):
            for _ in range(6):
                row, other = troop.any_row(chance, 4), troop.any_row(chance, 4)
                wanted = troop.dragged_members(row + other) == troop.dragged_members(other + row)
                for one, two in ((row, other), (other, row), (list(row), other), (row, list(other))):
                    self.assertIs(commute(troop.party, one, two), wanted)
                seen[wanted] += 1
                meet = all(set(x) & set(y) for x, y in zip(troop.row_members(row), troop.row_members(other)))
                self.assertIs(meet, wanted)
        self.assertGreater(min(seen.values()), 50)

    def test_a_row_with_itself_and_with_the_empty_row(self):
        chance = random.Random(10)
        for troop in some_troops(seed=10, times=1):
            row = troop.any_row(chance, 6)
            for one, other in ((row, row), (row, ()), ([], row), ((), []), (row, row * 2)):
                self.assertIs(commute(troop.party, one, other), True)

    def test_pulls_of_one_walker_to_two_places(self):
        self.assertIs(commute(P, (('p', 'e'),), (('p', 'a'),)), False)
        self.assertIs(commute(P, (('p', 'e'),), (('p', 'e'),)), True)
        self.assertIs(commute(P, (('p', 'e'), ('p', 'a')), (('p', 'a'),)), True)


class Refusing(TroopCase):

    def refused(self, at, rows):
        for given in (rows, list(rows), [list(row) for row in rows]):
            self.refuses(Broken, {'at': at}, common_rest, P, given)
            for answer in (('standing', ('a', 'a', 'a')), ('apart', 0, 1, 'p'), None, ()):
                self.refuses(Broken, {'at': at}, rest_holds, P, given, answer)

    def test_rows_with_an_item_that_is_no_pull(self):
        good = (('p', 'a'), ('r', 'e'), ('q', 'a'))
        for value in (*ANY_VALUES, P, ('p', T), ('x', 'a'), ('p', 'x'), ('a', 'p'), ('p', 'a', 'a')):
            for before in range(4):
                row = good[:before] + (value, None)
                for rows in ((row,), (good, row), (row, good), (good, (), row, (None,)), (row, (None, None))):
                    self.refused(before, rows)
                self.refuses(Broken, {'at': before}, commute, P, row, good)
                self.refuses(Broken, {'at': before}, commute, P, good, list(row))
                self.refuses(Broken, {'at': before}, commute, P, list(row), (None,))

    def test_the_index_is_the_one_in_the_first_row_that_is_refused(self):
        bad = ('p', 'x')
        self.refused(2, (ROWS[0], (('p', 'a'), ('q', 'a'), bad), (bad,)))
        self.refused(0, (ROWS[0], (bad,), (('p', 'a'), bad)))
        self.refuses(Broken, {'at': 1}, commute, P, (('p', 'a'), bad), (bad,))
        self.refuses(Broken, {'at': 0}, commute, P, ROWS[0], (bad, bad))


class Document(TroopCase):

    def test_the_example(self):
        self.assertEqual((rest_holds(P, ROWS[:2], ('standing', ('e', 'c', 'd'))), common_rest(P, ROWS)[0]), (True, 'apart'))


if __name__ == '__main__':
    unittest.main()
