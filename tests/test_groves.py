"""What a grove is: point 20, with points 1, 2, 4, 6 and 14."""

import itertools
import random
import unittest

from tests.kit import ANY_VALUES, mixed_names
from tests.lands import GroveCase, Land, large_lands, small_lands, some_small_lands
from towgrove.errors import NoGrove, NoPlace
from towgrove.groves import Grove
from towgrove.lengths import Length
from towgrove.shapes import Ball, Branch, Way, Whole
from towgrove.trees import Tree

EDGES = (('a', 'b'), ('b', 'c'), ('c', 'd'), ('c', 'e'))
T = Tree(('a', 'b', 'c', 'd', 'e'), EDGES)


class Building(GroveCase):

    def test_each_set_of_places_of_small_trees(self):
        for land in itertools.chain(small_lands(4), some_small_lands(5, 5)):
            for many in range(len(land.places) + 1):
                for members in itertools.combinations(land.places, many):
                    gap = land.gap(members)
                    if gap is None:
                        self.same_grove(Grove(land.tree, members), land.tree, members)
                    else:
                        self.refuses(NoGrove, {'one': gap[0], 'other': gap[1]}, Grove, land.tree, members)

    def test_tuples_and_lists_in_any_order(self):
        for land in some_small_lands(4, 3):
            for members in land.every_grove():
                for mixed in itertools.permutations(members):
                    self.same_grove(Grove(land.tree, mixed), land.tree, members)
                    self.same_grove(Grove(land.tree, list(mixed)), land.tree, members)

    def test_repeated_places_count_once(self):
        for given in (('b', 'b'), ['c', 'b', 'c'], ('e', 'd', 'c', 'e', 'd', 'c'), ['a'] * 100):
            self.same_grove(Grove(T, given), T, sorted(set(given)))

    def test_empty_ones(self):
        for tree in (T, Tree(('x',), ())):
            for given in ((), []):
                self.same_grove(Grove(tree, given), tree, ())

    def test_large_trees(self):
        chance = random.Random(20)
        for land in large_lands():
            for _ in range(15):
                members = land.any_grove(chance)
                mixed = list(members) + [chance.choice(members) for _ in members[:3]]
                chance.shuffle(mixed)
                self.same_grove(Grove(land.tree, mixed), land.tree, members)
            self.same_grove(Grove(land.tree, land.places), land.tree, land.places)
            for _ in range(15):
                members = chance.sample(land.places, chance.randint(2, 5))
                gap = land.gap(members)
                if gap is not None:
                    self.refuses(NoGrove, {'one': gap[0], 'other': gap[1]}, Grove, land.tree, members)

    def test_arguments_by_name(self):
        self.same_grove(Grove(places=['c', 'b'], tree=T), T, ('b', 'c'))
        self.same_grove(Grove(T, places=('e',)), T, ('e',))

    def test_a_list_that_is_changed_later(self):
        given = ['c', 'b']
        grove = Grove(T, given)
        given.append('e')
        self.assertEqual(given, ['c', 'b', 'e'])
        given.clear()
        self.same_grove(grove, T, ('b', 'c'))
        self.assertEqual((grove('e'), grove == Grove(T, ('b', 'c'))), ('c', True))

    def test_the_argument_does_not_change(self):
        given = ['e', 'c', 'd', 'c']
        Grove(T, given)
        self.assertEqual(given, ['e', 'c', 'd', 'c'])

    def test_properties_cannot_be_assigned(self):
        grove = Grove(T, ('b',))
        for name in ('tree', 'places'):
            with self.assertRaises(AttributeError):
                setattr(grove, name, None)
        self.same_grove(grove, T, ('b',))


class Refusing(GroveCase):

    strangers = ('x', '', 'A', 'a ', 'ab', 'abcdefgh', ' ', '\n')

    def test_the_first_unknown_place(self):
        for name in self.strangers:
            for given in ((name,), ('a', name), (name, 'a'), ('a', name, 'b'), (name, 'zz'), ('a', 'a', name, 'zz')):
                self.refuses(NoPlace, {'place': name}, Grove, T, given)
                self.refuses(NoPlace, {'place': name}, Grove, T, list(given))

    def test_unknown_places_come_before_gaps(self):
        self.refuses(NoPlace, {'place': 'x'}, Grove, T, ('a', 'e', 'x'))
        self.refuses(NoPlace, {'place': 'y'}, Grove, T, ('a', 'e', 'b', 'y', 'x'))

    def test_the_two_places_of_a_gap(self):
        for given, one, other in (
                ('ac', 'a', 'c'), ('ca', 'a', 'c'), ('de', 'd', 'e'), ('ed', 'd', 'e'), ('abd', 'a', 'd'),
                ('dba', 'a', 'd'), ('ebad', 'a', 'd'), ('ace', 'a', 'c'), ('abde', 'a', 'd'), ('bde', 'b', 'd'),
                ('aacc', 'a', 'c')):
            self.refuses(NoGrove, {'one': one, 'other': other}, Grove, T, tuple(given))
            self.refuses(NoGrove, {'one': one, 'other': other}, Grove, T, list(given))

    def test_place_order_and_not_the_alphabet_or_the_order_given_decides(self):
        tree = Tree.in_row('z', 'm', 'a', 'q', 'b')
        for given in itertools.permutations(('z', 'a', 'q', 'b')):
            self.refuses(NoGrove, {'one': 'z', 'other': 'a'}, Grove, tree, given)
        tree = Tree(('z', 'm', 'a', 'q', 'b'), (('a', 'z'), ('z', 'b'), ('b', 'q'), ('q', 'm')))
        for given in itertools.permutations(('a', 'b', 'm')):
            self.refuses(NoGrove, {'one': 'm', 'other': 'a'}, Grove, tree, given)
        for given in itertools.permutations(('z', 'm', 'b')):
            self.refuses(NoGrove, {'one': 'z', 'other': 'm'}, Grove, tree, given)


class Containing(GroveCase):

    def test_any_value(self):
        grove = Grove(T, ('a', 'b'))
        for value in ANY_VALUES:
            self.assertIs(value in grove, value in ('a', 'b') and isinstance(value, str))
            self.assertIs(value in Grove(T, ()), False)
            self.assertIs(value in Whole(T), isinstance(value, str) and value in ('a', 'b', 'c', 'd', 'e'))

    def test_objects_of_the_package(self):
        for value in (T, Grove(T, ('a',)), Length(1), (Grove(T, ()),), ('a', T), Length.free()):
            self.assertIs(value in Grove(T, ('a', 'b')), False)


class Equality(GroveCase):

    def test_the_same_places_of_equal_trees(self):
        for land in small_lands(4):
            other = land.other_tree()
            for members, others in itertools.product(land.every_grove(), repeat=2):
                self.assertIs(Grove(land.tree, members) == Grove(other, others[::-1]), members == others)
                self.assertIs(Grove(land.tree, members) != Grove(other, others), members != others)

    def test_large_trees(self):
        chance = random.Random(8)
        for land in large_lands():
            other = land.other_tree()
            groves = [land.any_grove(chance) for _ in range(12)]
            for members, others in itertools.product(groves, repeat=2):
                self.assertIs(Grove(land.tree, members) == Grove(other, others), members == others)

    def test_trees_that_differ(self):
        names = ('a', 'b', 'c', 'd')
        trees = (Tree.in_row(*names), Tree.star(*names), Tree.in_row('b', 'a', 'c', 'd'),
                 Tree(('b', 'a', 'c', 'd'), (('a', 'b'), ('b', 'c'), ('c', 'd'))), Tree.in_row('a', 'b', 'c'),
                 Tree.in_row('a', 'b', 'c', 'd', 'e'))
        for one, other in itertools.product(trees, repeat=2):
            for places in ((), ('a',), ('a', 'b')):
                self.assertIs(Grove(one, places) == Grove(other, places), one is other)
                self.assertIs(Grove(one, places) != Grove(other, places), one is not other)

    def test_groves_of_other_classes(self):
        other = Tree(T.places, EDGES[::-1])
        for shape, places in ((Ball(other, 'e', 1), ('e', 'c')), (Branch(other, 'c', 'b'), ('a', 'b')),
                              (Way(other, 'd', 'e'), ('d', 'e', 'c')), (Whole(other), T.places)):
            grove = Grove(T, places)
            self.assertTrue(grove == shape and shape == grove and not grove != shape and not shape != grove)
            self.assertFalse(Grove(T, ('b',)) == shape or shape == Grove(T, ('b',)))
        self.assertTrue(Ball(T, 'd', 0) == Way(T, 'd', 'd') == Branch(T, 'c', 'd'))
        self.assertTrue(Ball(T, 'a', 4) == Whole(T) == Ball(other, 'e', Length.free()))

    def test_nothing_else(self):
        for value in (*ANY_VALUES, T, Length(2), ('a', 'b'), ['a', 'b'], {'a', 'b'}, frozenset(('a', 'b'))):
            self.assertIs(Grove(T, ('a', 'b')) == value, False)
            self.assertIs(Grove(T, ('a', 'b')) != value, True)
            self.assertIs(value == Grove(T, ('a', 'b')), False)
            self.assertIs(Grove(T, ()) == value, False)


class Limits(GroveCase):

    def test_all_places_but_one_of_a_row_of_forty(self):
        names = mixed_names(40)
        tree = Tree.in_row(*names)
        for at in range(1, 39):
            self.refuses(NoGrove, {'one': names[0], 'other': names[at + 1]}, Grove, tree, names[:at] + names[at + 1:])
        self.same_grove(Grove(tree, names[1:]), tree, names[1:])
        self.same_grove(Grove(tree, names[:-1]), tree, names[:-1])

    def test_a_tree_of_one_place(self):
        land = Land(('a',), ())
        for members in land.every_grove():
            self.same_grove(Grove(land.tree, members), land.tree, members)
        self.assertEqual(repr(Grove(land.tree, ('a',))), 'Grove(1 of 1)')
        self.assertEqual(repr(Grove(land.tree, ())), 'Grove(0 of 1)')


if __name__ == '__main__':
    unittest.main()
