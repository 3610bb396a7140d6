"""Places and paths of a tree: point 18, with points 1, 2, 3 and 5."""

import itertools
import random
import unittest

from tests.kit import (
    Case, every_tree, first_item, large_trees, mixed_names, slow_neighbours, slow_paths, some_trees,
)
from towgrove.errors import NoPlace
from towgrove.trees import Tree

T = Tree(('a', 'b', 'c', 'd', 'e'), (('a', 'b'), ('b', 'c'), ('c', 'd'), ('c', 'e')))


class Ways(Case):

    def each_tree(self):
        for places, edges in some_trees():
            yield Tree(places, edges), {place: slow_paths(places, edges, place) for place in places}

    def test_neighbours(self):
        for places, edges in some_trees():
            tree = Tree(places, edges)
            for place in places:
                found = tree.neighbours(place)
                self.assertIs(found.__class__, tuple)
                self.assertEqual(found, slow_neighbours(places, edges, place))

    def test_neighbours_are_in_place_order_whatever_the_order_of_the_edges(self):
        for edges in itertools.permutations((('m', 'z'), ('m', 'a'), ('q', 'm'))):
            self.assertEqual(Tree(('z', 'm', 'q', 'a'), edges).neighbours('m'), ('z', 'q', 'a'))
        self.assertEqual(Tree(('a',), ()).neighbours('a'), ())

    def test_distance(self):
        for tree, paths in self.each_tree():
            for a, b in itertools.product(tree.places, repeat=2):
                found = tree.distance(a, b)
                self.assertIs(found.__class__, int)
                self.assertEqual(found, len(paths[a][b]) - 1)

    def test_toward(self):
        for tree, paths in self.each_tree():
            for a, b in itertools.product(tree.places, repeat=2):
                self.assertEqual(tree.toward(a, b), paths[a][b][1] if a != b else a)

    def test_path(self):
        for tree, paths in self.each_tree():
            for a, b in itertools.product(tree.places, repeat=2):
                self.assertEqual(tuple(tree.path(a, b)), paths[a][b])

    def test_walk(self):
        for tree, paths in self.each_tree():
            for place in tree.places:
                order = sorted(tree.places, key=lambda other: (len(paths[place][other]), tree.places.index(other)))
                self.assertEqual(list(tree.walk(place)), order)

    def median_of(self, paths, a, b, c):
        common = set(paths[a][b]) & set(paths[b][c]) & set(paths[c][a])
        self.assertEqual(len(common), 1)
        return common.pop()

    def test_median_of_each_three_places_of_small_trees(self):
        for many in range(1, 6):
            for places, edges in every_tree(many):
                tree = Tree(places, edges)
                paths = {place: slow_paths(places, edges, place) for place in places}
                for a, b, c in itertools.product(places, repeat=3):
                    self.assertEqual(tree.median(a, b, c), self.median_of(paths, a, b, c))

    def test_median_in_large_trees(self):
        for places, edges in large_trees():
            tree = Tree(places, edges)
            chance = random.Random(len(places))
            paths = {place: slow_paths(places, edges, place) for place in places}
            for _ in range(200):
                a, b, c = [chance.choice(places) for _ in range(3)]
                self.assertEqual(tree.median(a, b, c), self.median_of(paths, a, b, c))

    def test_the_two_ends_of_a_long_row(self):
        places = mixed_names(40)
        tree = Tree.in_row(*places)
        self.assertEqual(tree.distance(places[0], places[39]), 39)
        self.assertEqual(tuple(tree.path(places[39], places[0])), places[::-1])
        self.assertEqual(tuple(tree.walk(places[0])), places)
        self.assertEqual(tree.toward(places[0], places[39]), places[1])
        self.assertEqual(tree.median(places[0], places[39], places[17]), places[17])

    def test_a_tree_of_one_place(self):
        tree = Tree(('a',), ())
        self.assertEqual((tree.distance('a', 'a'), tree.toward('a', 'a'), tree.median('a', 'a', 'a')), (0, 'a', 'a'))
        self.assertEqual((tuple(tree.path('a', 'a')), tuple(tree.walk('a'))), (('a',), ('a',)))

    def test_arguments_by_name(self):
        self.assertEqual(T.neighbours(place='c'), ('b', 'd', 'e'))
        self.assertEqual(T.distance(b='e', a='a'), 3)
        self.assertEqual(T.toward(b='e', a='a'), 'b')
        self.assertEqual(T.toward('a', b='e'), 'b')
        self.assertEqual(T.median(c='e', a='a', b='d'), 'c')
        self.assertEqual(tuple(T.path(b='e', a='a')), ('a', 'b', 'c', 'e'))
        self.assertEqual(tuple(T.walk(place='e')), ('e', 'c', 'b', 'd', 'a'))


def path_read(tree, a, b):
    return tuple(tree.path(a, b))


def walk_read(tree, place):
    return tuple(tree.walk(place))


class NoPlaces(Case):

    strangers = ('x', '', 'A', 'a ', 'ab', 'abcdefgh', ' ', '\n', 'y')

    def test_one_place(self):
        for work in (Tree.neighbours, walk_read):
            for name in self.strangers:
                self.refuses(NoPlace, {'place': name}, work, T, name)
                self.refuses(NoPlace, {'place': name}, work, T, place=name)

    def test_the_first_unknown_one_of_two(self):
        for work in (Tree.distance, Tree.toward, path_read):
            for x, y in itertools.product(self.strangers, repeat=2):
                self.refuses(NoPlace, {'place': x}, work, T, x, y)
                self.refuses(NoPlace, {'place': x}, work, T, b=y, a=x)
            for x, known in itertools.product(self.strangers, T.places):
                self.refuses(NoPlace, {'place': x}, work, T, x, known)
                self.refuses(NoPlace, {'place': x}, work, T, known, x)
                self.refuses(NoPlace, {'place': x}, work, T, b=x, a=known)
            for x in self.strangers:
                self.refuses(NoPlace, {'place': x}, work, T, x, x)

    def test_the_first_unknown_one_of_three(self):
        for names in itertools.product(('a', 'c', 'x', 'y', 'Z'), repeat=3):
            unknown = [name for name in names if name not in T.places]
            if unknown:
                self.refuses(NoPlace, {'place': unknown[0]}, T.median, *names)
                self.refuses(NoPlace, {'place': unknown[0]}, T.median, c=names[2], b=names[1], a=names[0])


class Iterators(Case):

    def test_errors_are_raised_when_the_first_item_is_asked_for(self):
        for iterator, name in ((T.path('x', 'a'), 'x'), (T.path('a', 'y'), 'y'), (T.path('x', 'y'), 'x'),
                               (T.path('x', 'x'), 'x'), (T.walk('x'), 'x')):
            self.refuses(NoPlace, {'place': name}, first_item, iterator)

    def test_an_iterator_that_is_never_read_raises_nothing(self):
        T.path('x', 'y')
        T.walk('x')

    def test_half_read_and_begun_again(self):
        for many in range(5):
            path, walk = T.path('a', 'e'), T.walk('c')
            self.assertEqual([item for _, item in zip(range(many), path)], ['a', 'b', 'c', 'e'][:many])
            self.assertEqual([item for _, item in zip(range(many), walk)], ['c', 'b', 'd', 'e'][:many])
            self.assertEqual(list(T.path('a', 'e')), ['a', 'b', 'c', 'e'])
            self.assertEqual(list(T.walk('c')), ['c', 'b', 'd', 'e', 'a'])

    def test_they_are_iterators_that_go_on_where_they_were_left(self):
        for iterator, items in ((T.path('a', 'e'), ['a', 'b', 'c', 'e']), (T.walk('c'), ['c', 'b', 'd', 'e', 'a'])):
            self.assertIs(iter(iterator), iterator)
            self.assertEqual(first_item(iterator), items[0])
            self.assertEqual(first_item(iterator), items[1])
            self.assertEqual(list(iterator), items[2:])
            self.assertEqual(list(iterator), [])

    def test_read_within_one_another(self):
        for make, items in ((lambda: T.path('e', 'a'), ['e', 'c', 'b', 'a']),
                            (lambda: T.walk('c'), ['c', 'b', 'd', 'e', 'a'])):
            found = [(one, other) for one in make() for other in make()]
            self.assertEqual(found, list(itertools.product(items, repeat=2)))

    def test_read_by_turns(self):
        found = list(zip(T.walk('a'), T.walk('e'), T.walk('a')))
        self.assertEqual(found, list(zip('abcde', 'ecbda', 'abcde')))
        found = list(zip(T.path('a', 'e'), T.path('e', 'a'), T.path('a', 'd')))
        self.assertEqual(found, list(zip('abce', 'ecba', 'abcd')))

    def test_other_calls_between_the_items(self):
        found = []
        for place in T.walk('e'):
            found.append((place, T.distance('e', place), tuple(T.path(place, 'e')), T.neighbours(place)))
            T.cut('a', 'b')
            T.renamed('vwxyz')
        self.assertEqual([item[0] for item in found], ['e', 'c', 'b', 'd', 'a'])
        self.assertEqual([item[1] for item in found], [0, 1, 2, 2, 3])

    def test_two_trees_with_the_same_places(self):
        row, star = Tree.in_row('a', 'b', 'c', 'd'), Tree.star('a', 'b', 'c', 'd')
        self.assertEqual(list(zip(row.path('a', 'd'), star.path('a', 'd'))), [('a', 'a'), ('b', 'd')])
        self.assertEqual((row.distance('b', 'd'), star.distance('b', 'd'), row.distance('b', 'd')), (2, 2, 2))
        self.assertEqual((row.distance('a', 'd'), star.distance('a', 'd'), row.distance('a', 'd')), (3, 1, 3))


def calls(tree):
    """Each call of a method of point 18, by name and arguments."""
    places = (*tree.places[:4], 'nope')
    for name, many in (('neighbours', 1), ('walk', 1), ('distance', 2), ('toward', 2), ('path', 2), ('median', 3)):
        for names in itertools.product(places, repeat=many):
            yield name, names


def result(tree, name, names):
    try:
        found = getattr(tree, name)(*names)
        return tuple(found) if name in ('walk', 'path') else found
    except NoPlace as error:
        return 'no place', error.place


class Unchanging(Case):

    def test_results_do_not_depend_on_calls_in_between(self):
        for places, edges in itertools.chain(every_tree(4), large_trees()):
            tree = Tree(places, edges)
            todo = list(calls(tree))
            first = [result(tree, *call) for call in todo]
            random.Random(3).shuffle(todo)
            again = {call: result(tree, *call) for call in todo}
            self.assertEqual(first, [again[call] for call in calls(tree)])
            self.same_tree(tree, places, edges)
            self.assertEqual(tree, Tree(places, edges))

    def test_equal_trees_give_equal_results(self):
        for places, edges in every_tree(4):
            tree, other = Tree(places, edges), Tree(places, tuple(edge[::-1] for edge in reversed(edges)))
            for call in calls(tree):
                self.assertEqual(result(tree, *call), result(other, *call))


class Document(Case):

    def test_the_example(self):
        self.assertEqual((tuple(T.path('a', 'e')), tuple(T.walk('c')), T.median('a', 'd', 'e')),
                         (('a', 'b', 'c', 'e'), ('c', 'b', 'd', 'e', 'a'), 'c'))


if __name__ == '__main__':
    unittest.main()
