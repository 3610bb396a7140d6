"""Rows that are done in trials: point 48, with 1, 2, 4, 12 and 14."""

import itertools
import random
import unittest

from tests.camping import BAD, ROW, START, TROOP, CampCase, SlowCamp, camp_with, told
from tests.kit import ANY_VALUES
from tests.troops import EQUAL, OTHERS, P, T, some_troops
from towgrove.camps import Camp
from towgrove.errors import Broken, NoMatch
from towgrove.hauls import Haul
from towgrove.shapes import Way, Whole

WISH = Haul(P, (Way(T, 'e', 'e'), Whole(T), Way(T, 'd', 'd')))


class Supposed(CampCase):

    def test_rows(self):
        chance = random.Random(2)
        for troop in some_troops(seed=2, times=1):
            standing = troop.any_legal(chance)
            camp = Camp(troop.party, standing)
            camp.pull(*troop.any_pull(chance))
            for _ in range(4):
                row = troop.any_row(chance, 8)
                for given in (row, list(row)):
                    self.assertEqual(self.stays(camp, camp.supposed, given), troop.dragged(camp.standing, row))
        self.assertEqual(self.stays(camp, camp.supposed, row=()), camp.standing)

    def test_values_that_are_no_pull(self):
        camp = camp_with(('p', 'e'))
        for value in (*ANY_VALUES, ('x', 'a'), ('p', 'x'), P):
            for at in range(3):
                row = ROW[:at] + (value, None)
                self.refused_and_stays(camp, Broken, {'at': at}, camp.supposed, row)
                self.refused_and_stays(camp, Broken, {'at': at}, camp.supposed, list(row))

    def test_within_a_trial(self):
        camp = camp_with(('p', 'e'))
        with camp.trial() as trial:
            camp.pull('q', 'a')
            self.stays(camp, camp.supposed, ROW)
            self.refused_and_stays(camp, Broken, {'at': 1}, camp.supposed, BAD)
            trial.keep()
        self.assertEqual(camp.log(), [('pull', 'p', 'e'), ('pull', 'q', 'a')])


class Tried(CampCase):

    def test_rows_that_lead_into_the_wish_and_others(self):
        chance, seen = random.Random(3), {True: 0, False: 0}
        for troop in some_troops(seed=3, times=2):
            camp = Camp(troop.party, troop.land.places[:1] * len(troop.walkers))
            slow = SlowCamp(troop, camp.standing)
            for _ in range(6):
                row, pull = troop.any_row(chance, 5), troop.any_pull(chance)
                wish = troop.party.haul_of(pull)
                ends = troop.dragged(slow.standing, row)
                wanted = all(place in places for place, places in zip(ends, troop.pull_members(*pull)))
                self.assertIs(camp.tried(row, wish=wish), wanted)
                if wanted:
                    for pull in row:
                        slow.pull(*pull)
                self.check_camp(camp, slow)
                seen[wanted] += 1
        self.assertGreater(min(seen.values()), 25, seen)

    def test_the_empty_row(self):
        camp = camp_with(*ROW)
        self.assertIs(self.stays(camp, camp.tried, (), wish=WISH), True)
        camp = Camp(P, START)
        self.assertIs(self.stays(camp, camp.tried, row=[], wish=WISH), False)

    def test_deeds_that_are_kept(self):
        camp = camp_with(('q', 'a'))
        self.assertIs(camp.tried(wish=WISH, row=list(ROW)), True)
        self.assertEqual((camp.log(), len(camp), camp.depth), ([('pull', 'q', 'a'), *[('pull', *pull) for pull in ROW]], 3, 0))
        self.assertEqual((camp.undo(), len(camp)), (True, 2))

    def test_a_wish_of_an_equal_party(self):
        wish = Haul(EQUAL, WISH.groves)
        self.assertIs(Camp(P, START).tried(ROW, wish=wish), True)
        self.assertIs(Camp(EQUAL, START).tried(ROW, wish=WISH), True)
        camp = Camp(P, START)
        self.assertIs(self.stays(camp, camp.tried, ROW[:1], wish=wish), False)

    def test_a_wish_of_another_party(self):
        for party in OTHERS:
            for row in (ROW, (), ROW[:1]):
                camp = camp_with(('q', 'a'))
                self.refused_and_stays(camp, NoMatch, {'word': 'party'}, camp.tried, row, wish=Haul.still(party))

    def test_a_broken_row_comes_before_another_party(self):
        for wish in (WISH, Haul.still(OTHERS[0])):
            for value in (None, ('x', 'a'), ('p', 'x'), 0, ROW):
                for at in range(3):
                    camp = camp_with(('q', 'a'))
                    self.refused_and_stays(camp, Broken, {'at': at}, camp.tried, ROW[:at] + (value, None), wish=wish)

    def test_the_wish_is_passed_by_name(self):
        with self.assertRaises(TypeError):
            Camp(P, START).tried(ROW, WISH)

    def test_within_a_trial_that_is_not_kept(self):
        camp = camp_with(('q', 'a'))
        before = told(camp)
        with camp.trial():
            self.assertIs(camp.tried(ROW, wish=WISH), True)
            self.assertEqual((len(camp), camp.depth), (3, 1))
        self.assertEqual(told(camp), before)


class Nested(CampCase):

    def slow_nested(self, slow, rows, kept, at=0):
        """What `nested` returns and how it leaves the camp, or the index of the row that is refused."""
        if at == len(rows):
            return []
        before, found = slow.state(), None
        slow.depth += 1
        pulls = set(slow.troop.pulls())
        bad = any(pull not in pulls for pull in rows[at])
        if bad:
            found = at
        else:
            for pull in rows[at]:
                slow.pull(*pull)
            pair = slow.standing, slow.depth
            rest = self.slow_nested(slow, rows, kept, at + 1)
            found = rest if isinstance(rest, int) else [pair, *rest]
        if bad or at not in kept:
            slow.take(before)
        slow.depth -= 1
        return found

    def check_nested(self, camp, slow, rows, kept):
        wanted = self.slow_nested(slow, rows, kept)
        if isinstance(wanted, int):
            self.refuses(Broken, {'at': wanted}, camp.nested, rows, kept=kept)
        else:
            found = camp.nested(rows, kept=kept)
            self.assertIs(found.__class__, tuple)
            self.assertEqual(found, tuple(wanted))
        self.check_camp(camp, slow)

    def test_each_choice_of_blocks_that_are_kept(self):
        rows = (ROW, (), (('q', 'a'), ('p', 'd')), (('r', 'e'),))
        for many in range(5):
            for kept in itertools.chain.from_iterable(itertools.combinations(range(5), size) for size in range(6)):
                for given in (rows[:many], [list(row) for row in rows[:many]]):
                    camp, slow = camp_with(('p', 'b')), SlowCamp(TROOP, START)
                    slow.pull('p', 'b')
                    self.check_nested(camp, slow, given, kept)
                    self.check_nested(camp, slow, given, list(kept))

    def test_a_row_that_is_refused_at_every_index(self):
        for many in (1, 3, 8):
            for at in range(many):
                for bad in ((('p', 'x'),), (('p', 'e'), None), (('p', 'e'), ('r', 'a'), ('x', 'a'), ('p', 'a'))):
                    for kept in ((), (0,), (at,), tuple(range(8)), (0, 1, 3), tuple(range(at)), (at + 1,), (7, 1)):
                        rows = [ROW, (('q', 'a'),)] * 4
                        rows[at] = bad
                        camp, slow = camp_with(('p', 'b')), SlowCamp(TROOP, START)
                        slow.pull('p', 'b')
                        self.check_nested(camp, slow, rows[:many], kept)

    def test_mixed_rows(self):
        chance = random.Random(4)
        for troop in some_troops(seed=4, times=1):
            camp = Camp(troop.party, troop.land.places[:1] * len(troop.walkers))
            slow = SlowCamp(troop, camp.standing)
            for _ in range(5):
                rows = [troop.any_row(chance, 3) for _ in range(chance.randint(0, 8))]
                if rows and chance.random() < 0.3:
                    rows[chance.randrange(len(rows))] += (('x', 'x'),)
                kept = [at for at in range(8) if chance.random() < 0.6]
                self.check_nested(camp, slow, rows, kept)
                while len(camp) > 20:
                    self.assertEqual((camp.undo(), slow.undo()), (True, True))

    def test_the_pairs(self):
        camp = camp_with(('p', 'b'))
        rows = ((('p', 'e'),), (), (('r', 'd'),))
        found = self.stays(camp, camp.nested, rows)
        self.assertEqual(found, ((('e', 'c', 'a'), 1), (('e', 'c', 'a'), 2), (('e', 'c', 'd'), 3)))
        self.assertTrue(all(pair.__class__ is tuple and pair[1].__class__ is int for pair in found))
        with camp.trial():
            self.assertEqual([depth for _, depth in self.stays(camp, camp.nested, list(rows))], [2, 3, 4])

    def test_no_rows(self):
        for rows in ((), []):
            for kept in ((), (0,), [0, 1]):
                camp = camp_with(('p', 'b'))
                self.assertEqual(self.stays(camp, camp.nested, rows, kept=kept), ())

    def test_by_name(self):
        camp = Camp(P, START)
        self.assertEqual(camp.nested(kept=[0], rows=[ROW]), ((('e', 'c', 'd'), 1),))
        self.assertEqual(len(camp), 2)
        with self.assertRaises(TypeError):
            camp.nested([ROW], [0])

    def test_blocks_stay_kept_though_an_inner_row_is_refused(self):
        camp = Camp(P, START)
        self.refuses(Broken, {'at': 2}, camp.nested, (ROW, (('q', 'a'),), BAD), kept=(0, 2))
        self.assertEqual((camp.log(), camp.depth), ([('pull', *pull) for pull in ROW], 0))
        self.refuses(Broken, {'at': 1}, camp.nested, ((('q', 'a'),), BAD), kept=(1,))
        self.assertEqual((len(camp), camp.depth), (2, 0))

    def test_the_arguments_do_not_change(self):
        rows, kept = [list(ROW), [('q', 'a')]], [1, 0]
        camp = Camp(P, START)
        camp.nested(rows, kept=kept)
        self.assertEqual((rows, kept, len(camp)), ([list(ROW), [('q', 'a')]], [1, 0], 3))


if __name__ == '__main__':
    unittest.main()
