"""Trees made from trees: point 19, with points 2 and 4."""

import itertools
import random
import unittest

from tests.kit import ANY_VALUES, Case, every_tree, large_trees, mixed_names, slow_paths, some_trees
from towgrove.errors import NoMatch, NoPlace, NoTree
from towgrove.trees import Tree

EDGES = (('a', 'b'), ('b', 'c'), ('c', 'd'), ('c', 'e'))
T = Tree(('a', 'b', 'c', 'd', 'e'), EDGES)


class Unchanged(Case):

    def tearDown(self):
        self.same_tree(T, ('a', 'b', 'c', 'd', 'e'), EDGES)
        self.assertEqual(T, Tree(('a', 'b', 'c', 'd', 'e'), EDGES))
        self.assertEqual([tuple(T.walk(place)) for place in 'ae'], [tuple('abcde'), tuple('ecbda')])


class Cut(Unchanged):

    def check_parts(self, places, edges, a, b):
        tree = Tree(places, edges)
        parts = tree.cut(a, b)
        self.assertIs(parts.__class__, tuple)
        self.assertEqual(len(parts), 2)
        left = tuple(edge for edge in edges if set(edge) != {a, b})
        for part, end in zip(parts, (a, b)):
            reached = slow_paths(places, left, end)
            self.same_tree(part, tuple(place for place in places if place in reached),
                           tuple(edge for edge in left if edge[0] in reached))
        self.same_tree(tree, places, edges)

    def test_each_edge_of_each_tree(self):
        for places, edges in some_trees():
            for a, b in edges:
                self.check_parts(places, edges, a, b)
                self.check_parts(places, edges, b, a)

    def test_the_tree_with_the_first_place_comes_first(self):
        for a, b in EDGES:
            for one, other in ((a, b), (b, a)):
                first, second = T.cut(one, other)
                self.assertTrue(one in first and other in second)
                self.assertFalse(other in first or one in second)

    def test_arguments_by_name(self):
        first, second = T.cut(b='c', a='b')
        self.same_tree(first, ('a', 'b'), (('a', 'b'),))
        self.same_tree(second, ('c', 'd', 'e'), (('c', 'd'), ('c', 'e')))

    def test_parts_can_be_used_like_other_trees(self):
        first, second = T.cut('c', 'b')
        self.assertEqual((first.distance('d', 'e'), tuple(second.path('b', 'a'))), (2, ('b', 'a')))
        self.refuses(NoPlace, {'place': 'a'}, first.neighbours, 'a')
        self.assertEqual(first.neighbours('c'), ('d', 'e'))
        self.assertEqual(second.cut('a', 'b')[1], Tree(('b',), ()))

    def test_no_such_edge(self):
        for places, edges in every_tree(4):
            for a, b in itertools.product(places, repeat=2):
                if (a, b) not in edges and (b, a) not in edges:
                    self.refuses(NoMatch, {'word': 'edge'}, Tree(places, edges).cut, a, b)
        self.refuses(NoMatch, {'word': 'edge'}, T.cut, 'a', 'a')
        self.refuses(NoMatch, {'word': 'edge'}, Tree(('a',), ()).cut, 'a', 'a')

    def test_no_place_comes_before_no_match(self):
        for x, y in itertools.product(('x', 'y', '', 'A', 'ab'), repeat=2):
            self.refuses(NoPlace, {'place': x}, T.cut, x, y)
            self.refuses(NoPlace, {'place': x}, T.cut, b=y, a=x)
        for place in T.places:
            self.refuses(NoPlace, {'place': 'x'}, T.cut, 'x', place)
            self.refuses(NoPlace, {'place': 'x'}, T.cut, place, 'x')
            self.refuses(NoPlace, {'place': 'x'}, T.cut, b='x', a=place)


class Grafted(Unchanged):

    def test_each_two_places_of_small_trees(self):
        trees = [pair for many in (1, 2, 3, 4) for pair in every_tree(many)]
        others = [tuple(pair) for pair in (
            (('x',), ()), (('y', 'x'), (('x', 'y'),)), (('y', 'x', 'aa'), (('x', 'aa'), ('y', 'x'))))]
        for (places, edges), (more, added) in itertools.product(trees, others):
            tree, other = Tree(places, edges), Tree(more, added)
            if set(places) & set(more):
                continue
            for at, to in itertools.product(places, more):
                self.same_tree(tree.grafted(other, at, to), (*places, *more), (*edges, *added, (at, to)))
                self.same_tree(other.grafted(tree, to, at), (*more, *places), (*added, *edges, (to, at)))
            self.same_tree(tree, places, edges)
            self.same_tree(other, more, added)

    def test_places_and_edges_keep_their_order(self):
        other = Tree(('z', 'y', 'x'), (('y', 'x'), ('z', 'x')))
        grafted = T.grafted(other, 'd', 'x')
        self.same_tree(grafted, ('a', 'b', 'c', 'd', 'e', 'z', 'y', 'x'),
                       (*EDGES, ('y', 'x'), ('z', 'x'), ('d', 'x')))
        self.assertEqual(tuple(grafted.path('a', 'z')), ('a', 'b', 'c', 'd', 'x', 'z'))
        self.same_tree(T.grafted(to='y', at='a', other=other), ('a', 'b', 'c', 'd', 'e', 'z', 'y', 'x'),
                       (*EDGES, ('y', 'x'), ('z', 'x'), ('a', 'y')))
        self.same_tree(other, ('z', 'y', 'x'), (('y', 'x'), ('z', 'x')))

    def test_errors_in_their_order(self):
        own, strange = Tree.in_row('e', 'f'), Tree.in_row('f', 'g')
        many = [''.join(letters) for letters in itertools.product('klmn', repeat=3)]
        large, common = Tree.in_row(*many[:38]), Tree.in_row('a', *many[:39])
        for other in (own, strange, common):
            self.refuses(NoPlace, {'place': 'x'}, T.grafted, other, 'x', 'y')
            self.refuses(NoPlace, {'place': 'x'}, T.grafted, to='y', at='x', other=other)
            self.refuses(NoPlace, {'place': 'x'}, T.grafted, other, 'x', other.places[0])
            self.refuses(NoPlace, {'place': 'y'}, T.grafted, other, 'a', 'y')
        self.refuses(NoPlace, {'place': 'f'}, T.grafted, strange, 'f', 'f')
        self.refuses(NoPlace, {'place': 'a'}, T.grafted, strange, 'a', 'a')
        self.refuses(NoPlace, {'place': 'f'}, T.grafted, strange, 'f', 'a')
        self.refuses(NoMatch, {'word': 'place'}, T.grafted, own, 'a', 'f')
        self.refuses(NoMatch, {'word': 'place'}, T.grafted, own, 'a', 'e')
        self.refuses(NoMatch, {'word': 'place'}, T.grafted, T, 'a', 'b')
        self.refuses(NoMatch, {'word': 'place'}, T.grafted, common, 'b', 'a')
        self.refuses(NoMatch, {'word': 'size'}, T.grafted, large, 'a', large.places[0])

    def test_each_common_place_is_found(self):
        for place in T.places:
            other = Tree.in_row('x', 'y', place, 'z')
            self.refuses(NoMatch, {'word': 'place'}, T.grafted, other, 'a', 'z')
            self.refuses(NoMatch, {'word': 'place'}, other.grafted, T, 'z', 'a')

    def test_at_most_forty_places(self):
        names = mixed_names(80)
        for many in (1, 2, 20, 39, 40):
            tree = Tree.in_row(*names[:many])
            for more in (1, 2, 20, 21, 38, 39, 40):
                other = Tree.star(*names[40:40 + more])
                if many + more > 40:
                    self.refuses(NoMatch, {'word': 'size'}, tree.grafted, other, names[0], names[40])
                else:
                    self.same_tree(tree.grafted(other, names[0], names[40]), names[:many] + names[40:40 + more],
                                   (*tree.edges, *other.edges, (names[0], names[40])))

    def test_what_was_cut_can_be_grafted_again(self):
        for places, edges in large_trees():
            a, b = random.Random(1).choice(edges)
            first, second = Tree(places, edges).cut(a, b)
            whole = first.grafted(second, a, b)
            self.assertEqual(set(whole.edges), set(edges))
            self.assertEqual(whole.places, first.places + second.places)


class Renamed(Unchanged):

    def test_all_trees(self):
        for places, edges in some_trees():
            names = mixed_names(len(places), seed=77)
            told = dict(zip(places, names))
            for given in (names, list(names)):
                self.same_tree(Tree(places, edges).renamed(given), names, [(told[a], told[b]) for a, b in edges])

    def test_names_may_be_the_old_ones_in_another_order(self):
        for names in itertools.permutations('abcde'):
            told = dict(zip('abcde', names))
            self.same_tree(T.renamed(names), names, [(told[a], told[b]) for a, b in EDGES])
        self.assertEqual(T.renamed(T.places), T)

    def test_arguments_by_name(self):
        self.same_tree(T.renamed(names=['v', 'w', 'x', 'y', 'z']), 'vwxyz',
                       (('v', 'w'), ('w', 'x'), ('x', 'y'), ('x', 'z')))

    def test_a_list_is_not_changed_and_can_be_changed_later(self):
        names = ['v', 'w', 'x', 'y', 'z']
        tree = T.renamed(names)
        self.assertEqual(names, ['v', 'w', 'x', 'y', 'z'])
        names[0] = 'q'
        names.append('r')
        self.same_tree(tree, 'vwxyz', (('v', 'w'), ('w', 'x'), ('x', 'y'), ('x', 'z')))

    def test_more_or_fewer_names(self):
        for names in ((), ('v',), ('v', 'w', 'x', 'y'), ('v', 'w', 'x', 'y', 'z', 'u'), ('A',), ('v',) * 6, ('',) * 4,
                      ('v',) * 41, mixed_names(41)):
            self.refuses(NoMatch, {'word': 'size'}, T.renamed, names)
            self.refuses(NoMatch, {'word': 'size'}, T.renamed, list(names))

    def test_names_that_are_refused(self):
        for bad in ANY_VALUES:
            if isinstance(bad, str) and not Tree.is_name(bad):
                self.refuses(NoTree, {'word': 'place', 'at': 0}, T.renamed, (bad, 'w', 'x', 'y', 'z'))
                self.refuses(NoTree, {'word': 'place', 'at': 4}, T.renamed, ('v', 'w', 'x', 'y', bad))
                self.refuses(NoTree, {'word': 'place', 'at': 2}, T.renamed, ['v', 'w', bad, bad, 'v'])
        self.refuses(NoTree, {'word': 'place', 'at': 1}, T.renamed, ('v', 'v', 'x', 'y', 'z'))
        self.refuses(NoTree, {'word': 'place', 'at': 4}, T.renamed, ('v', 'w', 'x', 'y', 'v'))
        self.refuses(NoTree, {'word': 'place', 'at': 1}, T.renamed, ('v',) * 5)
        self.refuses(NoTree, {'word': 'place', 'at': 3}, T.renamed, ('v', 'w', 'x', 'w', ''))

    def test_a_tree_of_one_place(self):
        self.same_tree(Tree(('a',), ()).renamed(('b',)), ('b',), ())


class Document(Unchanged):

    def test_the_example(self):
        self.assertEqual((T.cut('c', 'b')[0].places, T.cut('c', 'b')[1].places), (('c', 'd', 'e'), ('a', 'b')))


if __name__ == '__main__':
    unittest.main()
