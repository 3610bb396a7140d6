"""What groves answer: point 23, with points 2, 3, 6 and 14."""

import itertools
import random
import unittest

from tests.kit import first_item
from tests.lands import GroveCase, grove_pairs, large_lands, small_lands
from towgrove.errors import NoMatch, NoPlace
from towgrove.groves import Grove
from towgrove.shapes import Ball, Branch, Way, Whole
from towgrove.trees import Tree

T = Tree(('a', 'b', 'c', 'd', 'e'), (('a', 'b'), ('b', 'c'), ('c', 'd'), ('c', 'e')))


class Gates(GroveCase):

    def test_each_place(self):
        for land, members, _ in grove_pairs():
            grove = Grove(land.tree, members)
            for place in land.places if members else ():
                self.assertEqual(grove(place), land.gate(members, place))

    def test_argument_by_name(self):
        self.assertEqual(Grove(T, ('c', 'e'))(place='a'), 'c')

    def test_unknown_places_come_before_the_empty_grove(self):
        for name in ('x', '', 'A', 'a ', 'ab', '\n'):
            for grove in (Grove(T, ('a', 'b')), Grove(T, ()), Whole(T)):
                self.refuses(NoPlace, {'place': name}, grove, name)
        for place in T.places:
            self.refuses(NoMatch, {'word': 'empty'}, Grove(T, ()), place)


class Two(GroveCase):

    def test_within(self):
        for land, members, others in grove_pairs():
            found = Grove(land.tree, members).within(Grove(land.other_tree(), others))
            self.assertIs(found, set(members) <= set(others))

    def test_bridge(self):
        for land, members, others in grove_pairs(seed=6):
            one, other = Grove(land.tree, members), Grove(land.other_tree(), others)
            if not members or not others:
                self.refuses(NoMatch, {'word': 'empty'}, one.bridge, other)
            elif set(members) & set(others):
                self.assertIsNone(one.bridge(other))
            else:
                found = one.bridge(other)
                self.assertIs(found.__class__, tuple)
                self.assertEqual(found, land.bridge(members, others))

    def test_sources(self):
        for land, members, others in grove_pairs(seed=7):
            one, other = Grove(land.tree, members), Grove(land.other_tree(), others)
            if not members or not others:
                self.refuses(NoMatch, {'word': 'empty'}, one.sources, other)
            else:
                self.same_grove(one.sources(other), land.tree, land.sources(members, others))

    def test_sources_of_groves_that_are_apart(self):
        for one, other in (('a', 'c'), ('d', 'e'), ('ab', 'c'), ('cde', 'a'), ('e', 'cd')):
            self.same_grove(Grove(T, tuple(one)).sources(Grove(T, tuple(other))), T, ())
        self.same_grove(Grove(T, ('c', 'd')).sources(Grove(T, ('b', 'c'))), T, ('c', 'd', 'e'))

    def test_arguments_by_name(self):
        one, other = Grove(T, ('a',)), Grove(T, ('c', 'd'))
        self.assertEqual((one.within(other=other), one.bridge(other=other)), (False, ('a', 'c')))
        self.same_grove(other.sources(other=Way(T, 'b', 'e')), T, ('c', 'd'))

    def test_unequal_trees_come_first(self):
        trees = (T, Tree.in_row(*T.places), Tree.in_row('a', 'b', 'c'), Tree(T.places, T.edges[:3] + (('a', 'e'),)))
        for one, other in itertools.permutations(trees, 2):
            for places, others in itertools.product(((), ('a',), ('a', 'b')), repeat=2):
                for work in (Grove.within, Grove.bridge, Grove.sources):
                    self.refuses(NoMatch, {'word': 'tree'}, work, Grove(one, places), Grove(other, others))

    def test_empty_ones(self):
        empty = Grove(T, ())
        for other in (empty, Grove(T, ('a', 'b')), Whole(T)):
            self.assertIs(empty.within(other), True)
            self.assertIs(other.within(empty), other is empty)
            for work in (Grove.bridge, Grove.sources):
                self.refuses(NoMatch, {'word': 'empty'}, work, other, empty)
                self.refuses(NoMatch, {'word': 'empty'}, work, empty, other)


class Iterators(GroveCase):

    def check(self, land, members):
        grove = Grove(land.tree, members)
        inside = {place: [other for other in members if land.distance(place, other) == 1] for place in members}
        self.assertEqual(list(grove.leaves()), [place for place in members if len(inside[place]) <= 1])
        self.assertEqual(list(grove.border()), [(place, other) for place in members for other in land.places
                                                if land.distance(place, other) == 1 and other not in members])

    def test_leaves_and_border_of_each_grove_of_small_trees(self):
        for land in small_lands(4):
            for members in land.every_grove():
                self.check(land, members)

    def test_large_trees(self):
        chance = random.Random(9)
        for land in large_lands():
            self.check(land, land.places)
            for _ in range(15):
                self.check(land, land.any_grove(chance))

    def test_the_empty_grove_and_one_place(self):
        self.assertEqual((list(Grove(T, ()).leaves()), list(Grove(T, ()).border())), ([], []))
        self.assertEqual(list(Grove(T, ('c',)).leaves()), ['c'])
        self.assertEqual(list(Grove(T, ('c',)).border()), [('c', 'b'), ('c', 'd'), ('c', 'e')])
        one = Tree(('a',), ())
        self.assertEqual((list(Whole(one).leaves()), list(Whole(one).border())), (['a'], []))

    def test_pairs_are_tuples(self):
        for pair in Way(T, 'b', 'e').border():
            self.assertIs(pair.__class__, tuple)

    def test_half_read_and_begun_again(self):
        grove = Way(T, 'a', 'c')
        for many in range(3):
            leaves, border = grove.leaves(), grove.border()
            self.assertEqual([item for _, item in zip(range(many), leaves)], ['a', 'c'][:many])
            self.assertEqual([item for _, item in zip(range(many), border)], [('c', 'd'), ('c', 'e')][:many])
            self.assertEqual((list(grove.leaves()), list(grove.border())), (['a', 'c'], [('c', 'd'), ('c', 'e')]))

    def test_they_go_on_where_they_were_left(self):
        for iterator, items in ((Ball(T, 'c', 1).leaves(), ['b', 'd', 'e']),
                                (Grove(T, ('c',)).border(), [('c', 'b'), ('c', 'd'), ('c', 'e')])):
            self.assertIs(iter(iterator), iterator)
            self.assertEqual([first_item(iterator), first_item(iterator)], items[:2])
            self.assertEqual((list(iterator), list(iterator)), (items[2:], []))

    def test_read_within_one_another(self):
        grove = Ball(T, 'c', 1)
        for work, items in ((grove.leaves, ['b', 'd', 'e']), (Grove(T, ('c',)).border, [('c', 'b'), ('c', 'd'), ('c', 'e')])):
            self.assertEqual([(one, other) for one in work() for other in work()],
                             list(itertools.product(items, repeat=2)))
        other = Grove(T, ('d', 'c'))
        self.assertEqual(list(zip(grove.leaves(), other.leaves())), [('b', 'c'), ('d', 'd')])
        self.assertEqual(list(zip(Branch(T, 'b', 'c').border(), other.border())), [(('c', 'b'), ('c', 'b'))])

    def test_other_calls_between_the_items(self):
        grove, found = Ball(T, 'c', 1), []
        for place in grove.leaves():
            found.append((place, grove('a'), list(grove.leaves()), list(grove.border()), (grove >> Whole(T)).places))
        self.assertEqual(found, [(place, 'b', ['b', 'd', 'e'], [('b', 'a')], ('b', 'c', 'd', 'e')) for place in 'bde'])

    def test_equal_groves_have_the_same_items(self):
        chance = random.Random(10)
        for land in large_lands():
            for _ in range(5):
                members = land.any_grove(chance)
                one, other = Grove(land.tree, members), Grove(land.other_tree(), members[::-1])
                self.assertEqual(list(one.leaves()), list(other.leaves()))
                self.assertEqual(list(one.border()), list(other.border()))


class Document(GroveCase):

    def test_the_examples(self):
        ball = Ball(T, 'e', 1)
        self.assertEqual((ball.places, ball('a'), (Branch(T, 'c', 'b') >> ball).places, ball.bridge(Branch(T, 'c', 'b'))),
                         (('c', 'e'), 'c', ('c',), ('c', 'b')))
        self.assertEqual((Ball(T, 'd', 1).sources(Way(T, 'b', 'e')).places, tuple(Way(T, 'b', 'e').border())),
                         (('c', 'd'), (('b', 'a'), ('c', 'd'))))


if __name__ == '__main__':
    unittest.main()
