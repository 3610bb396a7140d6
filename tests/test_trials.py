"""Trials of camps: point 47, with 2, 4 and 12."""

import random
import unittest

from tests.camping import BAD, ROW, START, TROOP, CampCase, SlowCamp, camp_with, told
from tests.troops import P, some_troops
from towgrove.camps import Camp, Trial
from towgrove.errors import Broken, NoPlace, NoStanding, NoWalker, TowError


class Stop(BaseException):
    """An error that is no Exception."""


ERRORS = (ValueError, KeyError, TypeError, ZeroDivisionError, TowError, Stop, KeyboardInterrupt, StopIteration, AssertionError)


def deeds(camp):
    """Deeds of every kind, some of them undone."""
    camp.pull('q', 'd')
    camp.place_all(('b', 'b', 'b'))
    camp.several(ROW)
    camp.undo()


class Blocks(CampCase):

    def test_a_trial_that_is_not_kept(self):
        for camp in (Camp(P, START), camp_with(*ROW)):
            before = told(camp)
            with camp.trial() as trial:
                self.assertIs(trial.__class__, Trial)
                deeds(camp)
                self.assertNotEqual(told(camp), before)
            self.assertEqual(told(camp), before)

    def test_a_trial_that_is_kept(self):
        for at in range(3):
            camp, other = camp_with(*ROW), camp_with(*ROW)
            deeds(other)
            with camp.trial() as trial:
                for step in range(3):
                    if step == at:
                        self.assertIs(trial.keep(), None)
                    if step == 1:
                        deeds(camp)
            self.assertEqual(told(camp), told(other))

    def test_what_is_done_behind_keep_is_kept_too(self):
        camp = Camp(P, START)
        with camp.trial() as trial:
            camp.pull('p', 'e')
            trial.keep()
            camp.pull('r', 'd')
            trial.keep()
            camp.undo()
        self.assertEqual((camp.standing, camp.log()), (('e', 'c', 'a'), [('pull', 'p', 'e'), ('pull', 'r', 'd'), ('undo',)]))

    def test_a_block_without_deeds(self):
        camp = camp_with(*ROW)
        before = told(camp)
        for kept in (True, False):
            with camp.trial() as trial:
                if kept:
                    trial.keep()
            self.assertEqual(told(camp), before)

    def test_keep_outside_of_the_block_keeps_nothing(self):
        camp = camp_with(('p', 'e'))
        before = told(camp)
        trial = camp.trial()
        trial.keep()
        with trial:
            deeds(camp)
        self.assertEqual(told(camp), before)
        trial.keep()
        self.assertEqual(told(camp), before)

    def test_a_trial_that_is_not_entered_does_nothing(self):
        camp = camp_with(('p', 'e'))
        before = told(camp)
        trial = camp.trial()
        self.assertEqual(told(camp), before)
        camp.pull('p', 'a')
        after = told(camp)
        with trial:
            camp.pull('r', 'd')
        self.assertEqual(told(camp), after)

    def test_errors_are_passed_on(self):
        for kind in ERRORS:
            for kept in (True, False):
                camp, other = camp_with(('p', 'e')), camp_with(('p', 'e'))
                error = kind('x')
                with self.assertRaises(kind) as caught:
                    with camp.trial() as trial:
                        deeds(camp)
                        if kept:
                            trial.keep()
                        raise error
                self.assertIs(caught.exception, error)
                if kept:
                    deeds(other)
                self.assertEqual(told(camp), told(other))

    def test_errors_of_the_camp_itself(self):
        for kind, work in ((Broken, lambda camp: camp.several(BAD)), (Broken, lambda camp: camp.several(BAD, whole=False)),
                           (NoPlace, lambda camp: camp.pull('p', 'x')), (NoWalker, lambda camp: camp.pull('x', 'a')),
                           (NoStanding, lambda camp: camp.place_all(None)), (Broken, lambda camp: camp.supposed(BAD))):
            camp = camp_with(('p', 'e'))
            before = told(camp)
            with self.assertRaises(kind):
                with camp.trial():
                    camp.pull('r', 'd')
                    work(camp)
            self.assertEqual(told(camp), before)

    def test_blocks_that_are_left_by_return_break_and_continue(self):
        camp = camp_with(('p', 'e'))
        before = told(camp)

        def leave():
            with camp.trial():
                deeds(camp)
                return camp.depth

        self.assertEqual(leave(), 1)
        self.assertEqual(told(camp), before)
        for step in range(4):
            with camp.trial():
                deeds(camp)
                if step < 2:
                    continue
                break
        self.assertEqual((told(camp), step), (before, 2))

    def test_undo_takes_back_deeds_from_before_the_block(self):
        for kept in (True, False):
            camp = camp_with(*ROW)
            before = told(camp)
            with camp.trial() as trial:
                self.assertEqual((camp.undo(), camp.undo(), camp.undo()), (True, True, False))
                self.assertEqual((camp.standing, len(camp), camp.log()[2:]), (START, 0, [('undo',)] * 2))
                camp.pull('q', 'a')
                if kept:
                    trial.keep()
            if kept:
                self.assertEqual((camp.standing, len(camp)), (START, 1))
                self.assertEqual(camp.log(), [('pull', *ROW[0]), ('pull', *ROW[1]), ('undo',), ('undo',), ('pull', 'q', 'a')])
            else:
                self.assertEqual(told(camp), before)

    def test_deeds_that_were_kept_can_be_undone(self):
        camp = Camp(P, START)
        with camp.trial() as trial:
            camp.several(ROW)
            trial.keep()
        self.assertEqual((camp.undo(), camp.undo(), camp.undo(), camp.standing), (True, True, False, START))


class Nesting(CampCase):

    def test_kept_outside_inside_both_or_neither(self):
        wanted = {(False, False): [], (True, False): [1, 3], (False, True): [], (True, True): [1, 2, 3]}
        for (outer, inner), kept in wanted.items():
            camp = camp_with(('q', 'a'))
            with camp.trial() as first:
                camp.pull('p', 'b')
                with camp.trial() as second:
                    camp.pull('p', 'c')
                    if inner:
                        second.keep()
                if outer:
                    first.keep()
                camp.pull('p', 'd')
            pulls = [('pull', 'p', ' bcd'[at]) for at in kept]
            self.assertEqual(camp.log(), [('pull', 'q', 'a'), *pulls])
            self.assertEqual((len(camp), camp.depth), (1 + len(kept), 0))

    def test_an_outer_block_that_is_kept_while_an_inner_one_is_open(self):
        for inner, kept in ((False, 1), (True, 2)):
            camp = Camp(P, START)
            with camp.trial() as first:
                camp.pull('p', 'b')
                with camp.trial() as second:
                    first.keep()
                    camp.pull('p', 'c')
                    if inner:
                        second.keep()
            self.assertEqual(len(camp), kept)

    def test_depth(self):
        camp = Camp(P, START)
        trial = camp.trial()
        self.assertEqual(camp.depth, 0)
        with trial:
            self.assertEqual((camp.depth, camp.copied().depth), (1, 0))
            with self.assertRaises(ValueError):
                with camp.trial() as inner:
                    self.assertEqual(camp.depth, 2)
                    inner.keep()
                    raise ValueError
            self.assertEqual(camp.depth, 1)
            with camp.trial(), camp.trial():
                self.assertEqual(camp.depth, 3)
            self.assertEqual(camp.depth, 1)
        self.assertEqual(camp.depth, 0)

    def test_twenty_blocks(self):
        for kept in ((), range(20), range(10), range(10, 20), range(0, 20, 2)):
            camp, found = Camp(P, START), []

            def go(at):
                if at == 20:
                    return
                with camp.trial() as trial:
                    camp.pull('p', 'abcde'[at % 5])
                    found.append((camp.depth, len(camp)))
                    if at in kept:
                        trial.keep()
                    go(at + 1)

            go(0)
            self.assertEqual(found, [(at + 1, at + 1) for at in range(20)])
            # What an inner block keeps stays only as far as the blocks around it keep it.
            stays = next((at for at in range(20) if at not in kept), 20)
            self.assertEqual((len(camp), camp.depth), (stays, 0))

    def test_mixed_deeds_blocks_and_errors(self):
        chance = random.Random(1)
        for troop in (*some_troops(seed=1, times=1), TROOP):
            camp = Camp(troop.party, troop.land.places[:1] * len(troop.walkers))
            slow = SlowCamp(troop, camp.standing)
            for _ in range(8):
                self.play(camp, slow, chance, 0)
                self.check_camp(camp, slow)
                while len(camp) > 20:
                    self.assertEqual((camp.undo(), slow.undo()), (True, True))

    def play(self, camp, slow, chance, deep):
        for _ in range(chance.randint(0, 5)):
            kind = chance.randrange(7)
            if kind < 3:
                pull = slow.troop.any_pull(chance)
                self.assertEqual(camp.pull(*pull), slow.pull(*pull))
            elif kind == 3:
                self.assertEqual(camp.undo(), slow.undo())
            elif kind == 4:
                standing = slow.troop.any_legal(chance)
                self.assertEqual(camp.place_all(standing), slow.place_all(standing))
            elif deep < 4:
                self.play_block(camp, slow, chance, deep)
            self.assertEqual((camp.standing, len(camp), camp.log(), camp.depth), (
                slow.standing, len(slow.deeds), slow.entries, slow.depth))

    def play_block(self, camp, slow, chance, deep):
        kept, early, fails = chance.random() < 0.5, chance.random() < 0.5, chance.random() < 0.3
        before = slow.state()
        slow.depth += 1
        try:
            with camp.trial() as trial:
                if kept and early:
                    trial.keep()
                self.play(camp, slow, chance, deep + 1)
                if kept and not early:
                    trial.keep()
                if fails:
                    raise KeyError
        except KeyError:
            self.assertTrue(fails)
        slow.depth -= 1
        if not kept:
            slow.take(before)

    def test_camps_side_by_side_and_copies_in_open_blocks(self):
        camp, other = Camp(P, START), Camp(P, START)
        with camp.trial():
            camp.pull('p', 'e')
            with other.trial() as second:
                other.pull('r', 'd')
                copy = camp.copied()
                self.assertEqual((copy.depth, copy.log(), len(copy), copy.standing), (0, [('pull', 'p', 'e')], 1, ('e', 'c', 'a')))
                copy.pull('q', 'a')
                self.assertEqual((len(camp), len(other), camp.depth, other.depth), (1, 1, 1, 1))
                with copy.trial():
                    self.assertEqual((copy.undo(), copy.undo(), copy.undo(), copy.depth, camp.depth), (True, True, False, 1, 1))
                    self.assertEqual(len(camp), 1)
                second.keep()
        self.assertEqual((camp.standing, camp.log(), camp.depth), (START, [], 0))
        self.assertEqual((other.log(), other.depth), ([('pull', 'r', 'd')], 0))
        self.assertEqual((copy.log(), len(copy), copy.depth), ([('pull', 'p', 'e'), ('pull', 'q', 'a')], 2, 0))
        self.assertEqual((copy.undo(), copy.standing), (True, ('e', 'c', 'a')))

    def test_trials_of_a_copy_do_not_reach_the_camp(self):
        camp = camp_with(('p', 'e'))
        copy = camp.copied()
        with copy.trial() as trial:
            copy.pull('r', 'd')
            camp.pull('q', 'b')
            trial.keep()
        self.assertEqual((len(camp), len(copy)), (2, 2))
        with camp.trial():
            copy.undo()
        self.assertEqual((len(camp), len(copy)), (2, 1))


class InTrial(CampCase):

    def test_what_work_returned(self):
        for value in (None, 1, 'x', (1, 2), [3], P, Stop):
            camp = camp_with(('p', 'e'))
            self.assertIs(self.stays(camp, camp.in_trial, lambda trial, value=value: value), value)

    def test_work_is_called_once_in_the_block(self):
        camp, calls = Camp(P, START), []

        def work(trial):
            calls.append((trial.__class__, camp.depth))
            deeds(camp)

        self.assertIs(self.stays(camp, camp.in_trial, work=work), None)
        self.assertEqual(calls, [(Trial, 1)])

    def test_work_that_keeps(self):
        camp = Camp(P, START)

        def work(trial):
            camp.pull('p', 'e')
            trial.keep()
            return camp.standing

        self.assertEqual(camp.in_trial(work), ('e', 'c', 'a'))
        self.assertEqual((camp.log(), camp.depth), ([('pull', 'p', 'e')], 0))

    def test_work_that_raises(self):
        for kind in ERRORS:
            for kept in (False, True):
                camp, error = camp_with(('p', 'e')), kind('x')

                def work(trial):
                    camp.pull('r', 'd')
                    if kept:
                        trial.keep()
                    raise error

                with self.assertRaises(kind) as caught:
                    camp.in_trial(work)
                self.assertIs(caught.exception, error)
                self.assertEqual((len(camp), camp.depth), (2 if kept else 1, 0))

    def test_trials_within_in_trial(self):
        for outer, inner, many in ((False, False, 0), (False, True, 0), (True, False, 1), (True, True, 2)):
            camp = Camp(P, START)

            def work(trial):
                camp.pull('p', 'e')
                with camp.trial() as second:
                    camp.pull('r', 'd')
                    if inner:
                        second.keep()
                if outer:
                    trial.keep()
                return camp.in_trial(lambda third: (camp.pull('q', 'a'), camp.depth, camp.undo(), camp.undo()))[1]

            self.assertEqual(camp.in_trial(work), 2)
            self.assertEqual((len(camp), camp.depth), (many, 0))


if __name__ == '__main__':
    unittest.main()
