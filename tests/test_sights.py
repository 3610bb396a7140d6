"""The ropes that explain sights: points 12, 40, 41, 42 and `spans` of point 43, with 1, 2, 4 and 14."""

import itertools
import random
import time
import unittest

from tests.kit import Case
from tests.lands import Land
from tests.scenes import Scene, SceneCase, any_scene, is_explained
from tests.troops import P, T
from towgrove.errors import Unexplained
from towgrove.lengths import Length
from towgrove.sights import fitting, fitting_holds, spans
from towgrove.trees import Tree
from towgrove.webs import Web

LAND = Land(T.places, T.edges)
ROW = Tree.in_row('a', 'b', 'c', 'd', 'e')


def is_less(length, other):
    return length is not None and (other is None or length < other)


class Searching(SceneCase, Case):
    """Answers against a search over all webs of small trees."""

    def explaining(self, troops, sights):
        return [troop for troop in troops if all(is_explained(troop, sight) for sight in sights)]

    def check_sights(self, scene, troops, sights):
        answer = self.check_answer(scene, sights)
        found = self.explaining(troops, sights)
        self.assertEqual(answer[0] == 'web', found != [], (sights, answer))
        if not found:
            self.refuses(Unexplained, {}, spans, scene.land.tree, scene.walkers, sights)
            return answer[0]
        reaches = scene.troop(answer[1].ropes).reaches
        wanted = []
        for a, b in scene.pairs:
            of_pair = [troop.reaches[a, b] for troop in found]
            self.assertFalse(any(is_less(reaches[a, b], reach) for reach in of_pair))
            least = min((reach for reach in of_pair if reach is not None), default=None)
            wanted.append((a, b, least, reaches[a, b]))
        self.assertIn(reaches, [troop.reaches for troop in found])
        self.check_spans(scene, sights, wanted, found)
        return 'web'

    def check_spans(self, scene, sights, wanted, troops):
        found = spans(scene.land.tree, scene.walkers, sights)
        self.assertIs(found.__class__, tuple)
        for span in found:
            self.assertEqual((span.__class__, len(span), span[2].__class__, span[3].__class__), (tuple, 4, Length, Length))
        self.assertEqual([(a, b, least.number, greatest.number) for a, b, least, greatest in found], wanted)
        # Each number between belongs to some web, as far as the search has ropes for it.
        for a, b, least, greatest in wanted:
            longest = max(rope[2] for troop in troops for rope in (*troop.web.ropes, (a, b, 0)))
            for length in range(least, min(longest, longest if greatest is None else greatest) + 1):
                self.assertIn(length, [troop.reaches[a, b] for troop in troops])

    def test_two_walkers(self):
        chance, seen = random.Random(1), {}
        for many in (1, 2, 3, 4, 5, 6):
            for _ in range(4):
                scene = any_scene(many, 2, chance)
                troops = scene.all_troops()
                for _ in range(20):
                    word = self.check_sights(scene, troops, scene.any_sights(chance.randint(0, 4), chance))
                    seen[word] = seen.get(word, 0) + 1
        self.assertEqual(len(seen), 3)
        self.assertGreater(min(seen.values()), 25, seen)

    def test_three_walkers(self):
        chance, seen = random.Random(2), {}
        for many in (2, 3, 4, 4, 5):
            for _ in range(2):
                scene = any_scene(many, 3, chance)
                troops = scene.all_troops()
                for _ in range(16):
                    word = self.check_sights(scene, troops, scene.any_sights(chance.randint(1, 5), chance))
                    seen[word] = seen.get(word, 0) + 1
        self.assertEqual(len(seen), 3)
        self.assertGreater(min(seen.values()), 15, seen)

    def test_four_walkers(self):
        chance = random.Random(3)
        scene = any_scene(3, 4, chance)
        troops = scene.all_troops()
        words = [self.check_sights(scene, troops, scene.any_sights(chance.randint(1, 4), chance)) for _ in range(12)]
        self.assertIn('web', words)

    def test_every_sight_of_two_walkers_on_a_row_of_three(self):
        scene = Scene(Land(('b', 'a', 'c'), (('a', 'b'), ('c', 'a'))), ('q', 'p'))
        troops = scene.all_troops()
        standings = list(itertools.product(scene.land.places, repeat=2))
        pulls = list(itertools.product(scene.walkers, scene.land.places))
        words = [self.check_sights(scene, troops, (sight,)) for sight in itertools.product(standings, pulls, standings)]
        self.assertGreater(min(words.count('web'), words.count('odd')), 40)


class Larger(SceneCase, Case):

    def check_spans(self, scene, sights):
        """Check the least and the greatest reaches by doing the pulls with ropes that are as short, and shorter."""
        web = fitting(scene.land.tree, scene.walkers, sights)[1]
        found = spans(scene.land.tree, scene.walkers, sights)
        self.assertEqual([span[:2] for span in found], scene.pairs)
        for a, b, least, greatest in found:
            self.assertEqual(greatest, web.reach(a, b))
            self.assertTrue(all(is_explained(scene.troop(web.tied(a, b, least.number).ropes), sight) for sight in sights))
            self.assertEqual(web.tied(a, b, least.number).reach(a, b), least)
            if least.number > 0:
                shorter = scene.troop(web.tied(a, b, least.number - 1).ropes)
                self.assertFalse(all(is_explained(shorter, sight) for sight in sights))

    def test_larger_trees_and_webs(self):
        chance, seen = random.Random(4), {}
        for many, walkers in itertools.product((5, 8, 12), (2, 3, 4, 5, 6)):
            for _ in range(3):
                scene = any_scene(many, walkers, chance)
                for _ in range(5):
                    sights = scene.any_sights(chance.randint(0, 8), chance)
                    answer = self.check_answer(scene, sights)
                    if answer[0] == 'web':
                        self.check_spans(scene, sights)
                    else:
                        self.refuses(Unexplained, {}, spans, scene.land.tree, scene.walkers, sights)
                    seen[answer[0]] = seen.get(answer[0], 0) + 1
        self.assertEqual(len(seen), 3)
        self.assertGreater(min(seen.values()), 25, seen)

    def test_the_web_that_was_there_explains_its_sights(self):
        chance, tight = random.Random(5), 0
        for _ in range(60):
            scene = any_scene(chance.randint(3, 10), chance.randint(2, 6), chance)
            lengths = chance.choice(((0, 1), (1, 2, 3)))
            ropes = tuple((*pair, chance.choice(lengths)) for pair in scene.pairs if chance.random() < 0.6)
            troop = scene.troop(ropes)
            word, web = self.check_answer(scene, scene.true_sights(troop, 12, chance))
            self.assertEqual(word, 'web')
            self.assertTrue(troop.web.tighter(web))
            tight += troop.web == web
        self.assertGreater(tight, 5)

    def test_chains_over_several_walkers(self):
        walkers = ('p', 'q', 'r', 's')
        scene = Scene(Land(ROW.places, ROW.edges), walkers)
        sights = [(('b', 'b', 'b', 'a'), ('p', 'e'), ('e', 'd', 'c', 'a')), (('b', 'b', 'a', 'a'), ('q', 'c'), ('b', 'c', 'b', 'a')),
                  (('b', 'b', 'b', 'a'), ('r', 'c'), ('b', 'b', 'c', 'b'))]
        self.assertEqual([scene.seen(sights, *pair) for pair in scene.pairs], [[1], [2], [], [1], [], [1]])
        for order in itertools.permutations(sights):
            word, chain = self.check_answer(scene, order)
            self.assertEqual((word, sorted((chain[0], chain[-1]))), ('short', ['p', 's']))
            for chain in (('p', 'q', 'r', 's'), ('s', 'r', 'q', 'p'), ('p', 'r', 's'), ('s', 'r', 'p')):
                self.assertIs(fitting_holds(ROW, walkers, order, ('short', chain)), True)
            self.refuses(Unexplained, {}, spans, ROW, walkers, order)
        for at in range(3):
            self.assertEqual(self.check_answer(scene, sights[:at] + sights[at + 1:])[0], 'short' if at == 1 else 'web')

    def test_twenty_sights_of_six_walkers_on_forty_places(self):
        chance, seen = random.Random(6), set()
        start = time.perf_counter()
        for _ in range(12):
            scene = any_scene(40, 6, chance)
            sights = scene.any_sights(20, chance)
            if chance.random() < 0.6:
                sights = scene.true_sights(scene.troop(scene.bounds(sights)), 20, chance)
            before = time.perf_counter()
            answer = self.check_answer(scene, sights)
            if answer[0] == 'web':
                spans(scene.land.tree, scene.walkers, sights)
            self.assertLess(time.perf_counter() - before, 10)
            seen.add(answer[0])
        self.assertGreater(len(seen), 1)
        self.assertLess(time.perf_counter() - start, 90)


class Plain(SceneCase, Case):
    """Cases that the document names."""

    def scene(self, *walkers):
        return Scene(LAND, walkers)

    def test_no_sights(self):
        for many in range(1, 7):
            walkers = ('p', 'q', 'r', 's', 't', 'u')[:many]
            for sights in ((), []):
                word, web = fitting(T, walkers, sights)
                self.assertEqual((word, web, web.walkers), ('web', Web.loose(*walkers), walkers))
                self.assertIs(fitting_holds(T, walkers, sights, ('web', Web.loose(*walkers))), True)
                self.assertEqual(spans(T, walkers, sights), tuple(
                    (a, b, Length(0), Length.free()) for a, b in itertools.combinations(walkers, 2)))

    def test_one_walker(self):
        scene = self.scene('p')
        for before, place, after in itertools.product(T.places, repeat=3):
            sights = (((before,), ('p', place), (after,)),)
            answer = self.check_answer(scene, sights)
            if place == after:
                self.assertEqual(answer, ('web', Web.loose('p')))
                self.assertEqual(spans(T, ('p',), sights), ())
            else:
                self.assertEqual(answer, ('odd', 0, 'p'))
                self.refuses(Unexplained, {}, spans, T, ('p',), sights)

    def test_sights_in_which_nobody_moves(self):
        standing = ('a', 'c', 'e')
        word, web = fitting(T, ('p', 'q', 'r'), ((standing, ('q', 'c'), standing),))
        self.assertEqual((word, web), ('web', Web.loose('p', 'q', 'r')))
        found = spans(T, ('p', 'q', 'r'), ((standing, ('q', 'c'), standing),))
        self.assertEqual([(least.number, greatest.number) for _, _, least, greatest in found], [(2, None), (3, None), (1, None)])
        answer = fitting(T, ('p', 'q', 'r'), ((standing, ('q', 'b'), standing),))
        self.assertEqual(answer, ('odd', 0, 'q'))

    def test_a_walker_that_stays_shows_that_the_reach_is_long_enough(self):
        sights = ((('a', 'a'), ('p', 'd'), ('d', 'a')),)
        self.assertEqual(spans(T, ('p', 'q'), sights), (('p', 'q', Length(3), Length.free()),))
        self.assertEqual(fitting(T, ('p', 'q'), sights)[1], Web.loose('p', 'q'))

    def test_a_walker_that_moves_shows_the_reach(self):
        for after, number in (('b', 2), ('c', 1), ('d', 0)):
            sights = [(('a', 'a'), ('p', 'd'), ('d', after))]
            self.assertEqual(spans(T, ('p', 'q'), sights), (('p', 'q', Length(number), Length(number)),))
            self.assertEqual(fitting(T, ('p', 'q'), sights)[1], Web(('p', 'q'), (('p', 'q', number),)))

    def test_a_standing_before_that_is_too_wide(self):
        scene = self.scene('p', 'q')
        drag = (('a', 'a'), ('p', 'e'), ('e', 'c'))
        wide = (('a', 'c'), ('p', 'b'), ('b', 'c'))
        answer = self.check_answer(scene, (drag, wide))
        self.assertEqual((answer[0], sorted(answer[1])), ('short', ['p', 'q']))
        for chain in (('p', 'q'), ('q', 'p')):
            self.assertIs(fitting_holds(T, ('p', 'q'), (wide, drag), ('short', chain)), True)
        self.assertEqual(self.check_answer(scene, (drag, (('a', 'b'), ('p', 'b'), ('b', 'b'))))[0], 'web')

    def test_odd_sights(self):
        start = ('a', 'a', 'a')
        scene = self.scene('p', 'q', 'r')
        fine = (start, ('p', 'e'), ('e', 'b', 'a'))
        for sight, walker in (((start, ('p', 'e'), ('c', 'b', 'a')), 'p'), ((start, ('p', 'e'), ('e', 'd', 'a')), 'q'),
                              ((start, ('q', 'b'), ('a', 'b', 'c')), 'r'), ((start, ('r', 'd'), ('e', 'a', 'd')), 'p'),
                              ((('b', 'c', 'd'), ('r', 'c'), ('b', 'd', 'c')), 'q'), ((start, ('p', 'a'), ('b', 'a', 'a')), 'p')):
            self.assertEqual(self.check_answer(scene, (sight,)), ('odd', 0, walker))
            self.assertEqual(self.check_answer(scene, [fine, sight]), ('odd', 1, walker))
            self.assertEqual(self.check_answer(scene, [fine, fine, sight, fine])[:2], ('odd', 2))
            self.refuses(Unexplained, {}, spans, T, ('p', 'q', 'r'), (fine, sight))

    def test_several_odd_places(self):
        sights = [(('a', 'a', 'a'), ('p', 'e'), ('d', 'd', 'd'))] * 2
        word, at, walker = self.check_answer(self.scene('p', 'q', 'r'), sights)
        self.assertEqual(word, 'odd')
        for index, name in itertools.product(range(2), ('p', 'q', 'r')):
            self.assertIs(fitting_holds(T, ('p', 'q', 'r'), sights, ('odd', index, name)), True)

    def test_an_odd_sight_comes_before_a_chain_that_is_too_short(self):
        short = ((('a', 'a'), ('p', 'e'), ('e', 'c')), (('b', 'c'), ('q', 'd'), ('b', 'd')))
        odd = (('a', 'a'), ('p', 'e'), ('d', 'a'))
        scene = self.scene('p', 'q')
        self.assertEqual(self.check_answer(scene, short)[0], 'short')
        self.assertEqual(self.check_answer(scene, (*short, odd)), ('odd', 2, 'p'))
        self.assertIs(fitting_holds(T, ('p', 'q'), short, ('short', ('p', 'q'))), True)
        self.assertIs(fitting_holds(T, ('p', 'q'), (*short, odd), ('short', ('p', 'q'))), False)

    def test_the_reach_over_a_third_walker(self):
        sights = ((('a', 'a', 'a'), ('p', 'e'), ('e', 'c', 'a')), (('a', 'a', 'a'), ('q', 'c'), ('a', 'c', 'b')))
        scene = self.scene('p', 'q', 'r')
        answer = self.check_answer(scene, sights)
        self.assertEqual(answer[0], 'short')
        sights = ((('a', 'b', 'c'), ('q', 'd'), ('b', 'd', 'c')),)
        word, web = self.check_answer(scene, sights)
        self.assertEqual((word, web), ('web', Web(('p', 'q', 'r'), (('p', 'q', 2),))))
        sights = (*sights, (('c', 'c', 'a'), ('q', 'e'), ('c', 'e', 'b')))
        word, web = self.check_answer(scene, sights)
        self.assertEqual((word, web), ('web', Web(('p', 'q', 'r'), (('p', 'q', 2), ('q', 'r', 2)))))
        self.assertEqual([(str(least), str(greatest)) for _, _, least, greatest in spans(T, ('p', 'q', 'r'), sights)],
                         [('2', '2'), ('2', '4'), ('2', '2')])

    def test_the_order_of_the_walkers(self):
        sight = (('a', 'a', 'a'), ('p', 'e'), ('e', 'b', 'a'))
        for order in itertools.permutations(range(3)):
            walkers = tuple('pqr'[at] for at in order)
            before, pull, after = sight
            turned = tuple(before[at] for at in order), pull, tuple(after[at] for at in order)
            word, web = self.check_answer(Scene(LAND, walkers), (turned,))
            self.assertEqual((word, web.walkers, web.reach('p', 'q')), ('web', walkers, Length(2)))
            found = spans(T, walkers, (turned,))
            self.assertEqual([span[:2] for span in found], list(itertools.combinations(walkers, 2)))
            reaches = {frozenset(span[:2]): (span[2].number, span[3].number) for span in found}
            self.assertEqual(reaches, {frozenset('pq'): (2, 2), frozenset('pr'): (3, None), frozenset('qr'): (1, None)})

    def test_the_web_has_at_most_fifteen_ropes(self):
        walkers = ('p', 'q', 'r', 's', 't', 'u')
        sights = []
        for walker in walkers:
            after = tuple('c' if mate == walker else 'b' for mate in walkers)
            sights += [(('a',) * 6, (walker, 'c'), after)] * 3
        word, web = self.check_answer(Scene(LAND, walkers), tuple(sights))
        self.assertEqual((word, web), ('web', Web.complete(walkers, 1)))
        self.assertLessEqual(len(web.ropes), 15)

    def test_lists_names_and_no_change(self):
        sights = [(('a', 'a', 'a'), ('p', 'e'), ('e', 'b', 'a'))]
        first = (fitting(sights=sights, tree=T, walkers=('p', 'q', 'r')), spans(walkers=('p', 'q', 'r'), sights=sights, tree=T))
        self.assertIs(fitting_holds(answer=first[0], sights=sights, walkers=('p', 'q', 'r'), tree=T), True)
        self.assertEqual(sights, [(('a', 'a', 'a'), ('p', 'e'), ('e', 'b', 'a'))])
        self.assertEqual(first, (fitting(T, ('p', 'q', 'r'), tuple(sights)), spans(T, ('p', 'q', 'r'), tuple(sights))))
        sights.append((('a', 'a', 'a'), ('p', 'e'), ('e', 'c', 'a')))
        self.assertEqual(first[0], ('web', Web(('p', 'q', 'r'), (('p', 'q', 2),))))
        self.assertEqual(fitting(T, ('p', 'q', 'r'), sights)[0], 'short')

    def test_pulls_of_the_party_are_explained(self):
        standing, sights = ('a', 'a', 'a'), []
        for pull in (('p', 'e'), ('r', 'd'), ('q', 'a'), ('p', 'd')):
            after = P.pull(*pull)(standing)
            sights.append((standing, pull, after))
            standing = after
        word, web = fitting(T, P.walkers, sights)
        self.assertEqual(word, 'web')
        self.assertTrue(P.web.tighter(web))


class Document(Case):

    def test_the_example_of_fitting(self):
        sights = ((('a', 'a'), ('p', 'e'), ('e', 'c')), (('b', 'c'), ('q', 'd'), ('b', 'd')))
        self.assertEqual(fitting(T, ('p', 'q'), sights)[0], 'short')

    def test_the_example_of_spans(self):
        found = spans(T, ('p', 'q', 'r'), ((('a', 'a', 'a'), ('p', 'e'), ('e', 'b', 'a')),))
        self.assertEqual((found[1][:2], str(found[1][2]), str(found[1][3]), str(found[2][2])), (('p', 'r'), '3', 'free', '1'))


if __name__ == '__main__':
    unittest.main()
