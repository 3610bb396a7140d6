"""What is a tree: points 16 and 17, with points 1, 2 and 4."""

import ast
import itertools
import random
import re
import unittest

import towgrove
from tests.kit import ANY_VALUES, Case, every_tree, large_trees, mixed_edges, mixed_names, nested, some_trees
from towgrove.errors import NoTree
from towgrove.lengths import Length
from towgrove.trees import Tree


def is_name(value):
    return isinstance(value, str) and re.fullmatch('[a-z]{1,6}', value) is not None


def strings_only(value):
    return isinstance(value, tuple) and all(isinstance(item, str) for item in value)


def connected(edges, start):
    """All places that some edges connect with one place."""
    found = {start}
    for _ in edges:
        for edge in edges:
            if found & set(edge):
                found |= set(edge)
    return found


def reason(places, edges):
    """The word and the index that the document requires, or None for a tree."""
    if not strings_only(places) or not isinstance(edges, tuple):
        return 'form', 0
    if not all(strings_only(edge) and len(edge) == 2 for edge in edges):
        return 'form', 0
    if len(places) not in range(1, 41):
        return 'size', 0
    for at, place in enumerate(places):
        if not is_name(place) or place in places[:at]:
            return 'place', at
    for at, (a, b) in enumerate(edges):
        if a not in places or b not in places or a == b or {a, b} in [set(edge) for edge in edges[:at]]:
            return 'edge', at
    for at, (a, b) in enumerate(edges):
        if b in connected(edges[:at], a):
            return 'ring', at
    for at, place in enumerate(places):
        if place not in connected(edges, places[0]):
            return 'apart', at
    return None


class Refused(Case):

    def check(self, places, edges):
        why = reason(places, edges)
        if why is None:
            self.same_tree(Tree(places, edges), places, edges)
        else:
            self.refuses(NoTree, {'word': why[0], 'at': why[1]}, Tree, places, edges)


class Words(Refused):

    def test_form_of_the_places(self):
        for places in (None, True, 0, 'ab', 'a', '', (1,), (None,), ('a', 1), ('a', True), ('a', ('b',)), (('a',),)):
            self.refuses(NoTree, {'word': 'form', 'at': 0}, Tree, places, ())

    def test_form_of_the_edges(self):
        pairs = (None, True, 3, 'ab', 'a', '', ('ab',), ('a', 'b'), (('a',),), (('a', 'b', 'c'),), ((),), (('a', 1),),
                 ((1, 'b'),), (('a', None),), (('a', 'b'), 'ab'), (('a', 'b'), None), (('a', ('b',)),),
                 ((('a', 'b'),),))
        for edges in pairs:
            self.refuses(NoTree, {'word': 'form', 'at': 0}, Tree, ('a', 'b'), edges)

    def test_size(self):
        names = mixed_names(60)
        self.refuses(NoTree, {'word': 'size', 'at': 0}, Tree, (), ())
        for many in (41, 42, 60):
            self.refuses(NoTree, {'word': 'size', 'at': 0}, Tree, names[:many], tuple(zip(names[:many], names[1:many])))

    def test_one_and_forty_places(self):
        names = mixed_names(40)
        self.same_tree(Tree(('a',), ()), ('a',), ())
        edges = tuple(zip(names, names[1:]))
        self.same_tree(Tree(names, edges), names, edges)

    def test_place(self):
        for bad in ('', 'A', 'aB', 'abcdefg', 'a1', '1', 'a b', ' a', 'a ', 'a\n', '\n', '_', 'a-b', '{', '`'):
            self.refuses(NoTree, {'word': 'place', 'at': 0}, Tree, (bad,), ())
            self.refuses(NoTree, {'word': 'place', 'at': 2}, Tree, ('a', 'b', bad, '?', 'a'), ())
        self.refuses(NoTree, {'word': 'place', 'at': 1}, Tree, ('a', 'a'), ())
        self.refuses(NoTree, {'word': 'place', 'at': 3}, Tree, ('a', 'b', 'c', 'b', 'a', ''), ())

    def test_names_of_every_length_and_letter(self):
        for many in range(1, 7):
            self.assertEqual(Tree(('z' * many,), ()).places, ('z' * many,))
        letters = 'abcdefghijklmnopqrstuvwxyz'
        self.same_tree(Tree.in_row(*letters), letters, zip(letters, letters[1:]))

    def test_edge(self):
        good = (('a', 'b'),)
        for bad in (('a', 'x'), ('x', 'a'), ('x', 'y'), ('c', 'c'), ('a', 'a'), ('a', 'b'), ('b', 'a'), ('', 'a'),
                    ('a', 'A'), ('x', 'x')):
            self.refuses(NoTree, {'word': 'edge', 'at': 1}, Tree, ('a', 'b', 'c'), (*good, bad))
            self.refuses(NoTree, {'word': 'edge', 'at': 1}, Tree, ('a', 'b', 'c'), (*good, bad, ('c', 'b'), ('y', 'a')))

    def test_ring(self):
        places = ('d', 'a', 'c', 'b')
        for edges, at in (
                ((('a', 'b'), ('b', 'c'), ('c', 'a')), 2),
                ((('a', 'b'), ('b', 'c'), ('c', 'd'), ('a', 'd')), 3),
                ((('a', 'b'), ('c', 'd'), ('b', 'c'), ('d', 'a')), 3),
                ((('c', 'd'), ('a', 'b'), ('d', 'b'), ('c', 'a'), ('d', 'a')), 3),
                ((('a', 'b'), ('c', 'b'), ('c', 'a'), ('d', 'a')), 2)):
            self.refuses(NoTree, {'word': 'ring', 'at': at}, Tree, places, edges)

    def test_apart(self):
        places = ('d', 'a', 'c', 'b')
        for edges, at in (
                ((), 1),
                ((('a', 'b'), ('b', 'c')), 1),
                ((('d', 'a'),), 2),
                ((('d', 'c'), ('a', 'b')), 1),
                ((('a', 'd'), ('c', 'b')), 2),
                ((('a', 'd'), ('c', 'd')), 3),
                ((('b', 'd'), ('c', 'b')), 1)):
            self.refuses(NoTree, {'word': 'apart', 'at': at}, Tree, places, edges)

    def test_the_first_of_several_reasons(self):
        many = mixed_names(41)
        for places, edges, word, at in (
                ((), None, 'form', 0),
                (None, None, 'form', 0),
                ((*many, 1), (), 'form', 0),
                (many, (('a',),), 'form', 0),
                (('A', 'A'), (('x', 'x'), ('x',)), 'form', 0),
                ((), (('a', 'a'),), 'size', 0),
                ((many[0],) * 41, (), 'size', 0),
                (('A',) * 41, (('x', 'x'),), 'size', 0),
                (('a', 'b', 'A'), (('x', 'a'), ('a', 'a')), 'place', 2),
                (('a', 'b', 'a'), (('a', 'b'), ('b', 'a')), 'place', 2),
                (('a', 'b', 'c', 'd'), (('a', 'b'), ('b', 'c'), ('c', 'a'), ('d', 'd')), 'edge', 3),
                (('a', 'b', 'c', 'd'), (('a', 'b'), ('b', 'c'), ('c', 'a'), ('b', 'a')), 'edge', 3),
                (('a', 'b', 'c', 'd'), (('x', 'x'), ('a', 'a')), 'edge', 0),
                (('a', 'b', 'c', 'd'), (('b', 'c'), ('c', 'd'), ('d', 'b')), 'ring', 2),
                (('a', 'b', 'c', 'd'), (('c', 'd'),), 'apart', 1)):
            self.refuses(NoTree, {'word': word, 'at': at}, Tree, places, edges)

    def test_arguments_by_name(self):
        self.same_tree(Tree(edges=(('a', 'b'),), places=('b', 'a')), ('b', 'a'), (('a', 'b'),))
        self.refuses(NoTree, {'word': 'apart', 'at': 1}, Tree, edges=(), places=('b', 'a'))


class Anything(Refused):

    def test_any_value_as_a_whole_argument(self):
        for value in ANY_VALUES:
            self.check(value, ())
            self.check(('a',), value)
            self.check(('a', 'b'), value)
            self.check(value, (('a', 'b'),))
            self.check(value, value)

    def test_any_value_among_the_places(self):
        for value in ANY_VALUES:
            self.check((value,), ())
            self.check(('c', value), (('c', 'a'),))
            self.check((value, 'c'), (('c', 'b'),))
            self.check(('c', value, 'd'), (('c', 'd'), ('d', 'a')))

    def test_any_value_among_the_edges(self):
        for value in ANY_VALUES:
            self.check(('a', 'b'), (value,))
            self.check(('a', 'b'), (value, ('a', 'b')))
            self.check(('a', 'b'), (('a', 'b'), value))
            self.check(('a', 'b'), ((value, 'b'),))
            self.check(('a', 'b'), (('a', value),))
            self.check(('a', 'b', 'c'), (('a', 'b'), ('c', value)))
            self.check(('a', 'b', 'c'), (('a', 'b'), (value, 'c')))

    def test_values_that_are_nested_deep(self):
        for depth in range(9):
            self.check(nested(depth, 'a'), ())
            self.check(('a', 'b'), nested(depth, 'a'))
            self.check(('a', 'b'), nested(max(depth - 1, 0), ('a', 'b')))

    def test_values_beyond_the_limits(self):
        self.check(('a',) * 5000, ())
        self.check(('a', 'b'), (('a', 'b'),) * 5000)
        self.check(('a' * 5000,), ())
        self.check(('a', 'b'), (('a', 'b' * 5000),))


class Exhaustive(Refused):

    def test_all_short_rows_of_edges_on_three_places(self):
        ends = ('b', 'a', 'c', 'x')
        pairs = tuple(itertools.product(ends, repeat=2))
        for many in range(4):
            for edges in itertools.product(pairs, repeat=many):
                self.check(('b', 'a', 'c'), edges)

    def test_all_rows_of_different_edges_on_four_places(self):
        places = ('b', 'd', 'a', 'c')
        pairs = tuple(itertools.combinations(places, 2))
        for many in range(len(pairs) + 1):
            for edges in itertools.permutations(pairs, many):
                self.check(places, edges)

    def test_all_trees(self):
        for places, edges in some_trees():
            self.check(places, edges)

    def test_trees_with_one_edge_too_many_or_too_few(self):
        for places, edges in large_trees():
            chance = random.Random(len(places))
            at = chance.randrange(len(edges))
            self.check(places, (*edges[:at], *edges[at + 1:]))
            for _ in range(5):
                self.check(places, (*edges[:at], (chance.choice(places), chance.choice(places)), *edges[at:]))

    def test_places_with_one_more_or_less(self):
        for places, edges in large_trees():
            self.check((*places[:3], 'new', *places[3:]), edges)
            self.check((*places[:3], *places[4:]), edges)
            self.check((*places[:3], places[5], *places[4:]), edges)


class Properties(Case):

    def test_places_edges_and_length(self):
        for places, edges in some_trees():
            self.same_tree(Tree(places, edges), places, edges)

    def test_in(self):
        values = (*ANY_VALUES, 'c', 'd', ('c', 'd'), Length(1), Tree(('c',), ()))
        for places, edges in ((('a',), ()), (('b', 'c'), (('b', 'c'),)), (('abcdef', 'z'), (('z', 'abcdef'),))):
            tree = Tree(places, edges)
            for value in values:
                self.assertIs(value in tree, isinstance(value, str) and value in places, value)
                self.assertIs(value not in tree, not (isinstance(value, str) and value in places), value)

    def test_in_for_each_place(self):
        for places, edges in large_trees():
            tree = Tree(places, edges)
            for place in places:
                self.assertIs(place in tree, True)
            self.assertIs('nope' in tree, False)

    def test_repr(self):
        self.assertEqual(repr(Tree(('a',), ())), 'Tree(1 places)')
        for places, edges in large_trees():
            self.assertEqual(repr(Tree(places, edges)), f'Tree({len(places)} places)')

    def test_methods_stand_in_the_class_itself(self):
        self.assertEqual(Tree.__module__, 'towgrove.trees')
        for name in ('is_name', 'in_row', 'star', 'neighbours', 'distance', 'toward', 'median', 'path', 'walk',
                     'cut', 'grafted', 'renamed', '__len__', '__eq__', '__repr__'):
            self.assertIn(name, vars(Tree))
        self.assertIsInstance(vars(Tree)['is_name'], staticmethod)
        self.assertIsInstance(vars(Tree)['in_row'], classmethod)
        self.assertIsInstance(vars(Tree)['star'], classmethod)

    def test_the_package_itself_contains_only_a_docstring(self):
        with open(towgrove.__file__, encoding='utf-8') as file:
            rows = ast.parse(file.read()).body
        self.assertEqual(len(rows), 1)
        self.assertIsInstance(ast.literal_eval(rows[0].value), str)


class Equality(Case):

    def test_edges_in_any_order_and_direction(self):
        places, edges = ('a', 'b', 'c', 'd'), (('a', 'b'), ('c', 'b'), ('b', 'd'))
        tree = Tree(places, edges)
        for order in itertools.permutations(edges):
            for turned in itertools.product((1, -1), repeat=3):
                other = Tree(places, tuple(edge[::turn] for edge, turn in zip(order, turned)))
                self.assertIs(tree == other, True)
                self.assertIs(other == tree, True)
                self.assertIs(tree != other, False)

    def test_large_trees_with_mixed_edges(self):
        for places, edges in large_trees():
            other = mixed_edges(edges, random.Random(5))
            self.assertIs(Tree(places, edges) == Tree(places, other), True)

    def test_places_in_another_order(self):
        places, edges = ('a', 'b', 'c'), (('a', 'b'), ('c', 'b'))
        for order in itertools.permutations(places):
            self.assertIs(Tree(places, edges) == Tree(order, edges), order == places)
            self.assertIs(Tree(places, edges) != Tree(order, edges), order != places)

    def test_each_two_trees_on_the_same_places(self):
        for many in (3, 4):
            pairs = [(Tree(places, edges), {frozenset(edge) for edge in edges}) for places, edges in every_tree(many)]
            for (one, first), (other, second) in itertools.product(pairs, repeat=2):
                self.assertIs(one == other, first == second)
                self.assertIs(one != other, first != second)

    def test_trees_of_other_sizes_and_names(self):
        trees = [Tree(('a',), ()), Tree(('b',), ()), Tree.in_row('a', 'b'), Tree.in_row('b', 'a'),
                 Tree.in_row('a', 'c'), Tree.in_row('a', 'b', 'c'), Tree.star('a', 'b', 'c')]
        for (i, one), (j, other) in itertools.product(enumerate(trees), repeat=2):
            self.assertIs(one == other, i == j)

    def test_equal_to_nothing_else(self):
        for tree in (Tree(('a',), ()), Tree.in_row('a', 'b')):
            for other in (*ANY_VALUES, tree.places, tree.edges, (tree.places, tree.edges), repr(tree), len(tree),
                          Length(1)):
                self.assertIs(tree == other, False)
                self.assertIs(other == tree, False)
                self.assertIs(tree != other, True)


class Names(Case):

    def test_any_value(self):
        for value in (*ANY_VALUES, Length(1), Tree(('a',), ())):
            self.assertIs(Tree.is_name(value), is_name(value), value)
            self.assertIs(Tree.is_name(value=value), is_name(value), value)

    def test_lengths(self):
        for many in range(10):
            self.assertIs(Tree.is_name('q' * many), 1 <= many <= 6)

    def test_each_printable_character_and_the_newline(self):
        for code in (10, *range(32, 127)):
            for text in (chr(code), chr(code) + 'b', 'b' + chr(code), 'bc' + chr(code) + 'de'):
                self.assertIs(Tree.is_name(text), 'a' <= chr(code) <= 'z', text)

    def test_it_can_be_called_off_a_tree_too(self):
        self.assertIs(Tree(('a',), ()).is_name('b'), True)
        self.assertIs(Tree(('a',), ()).is_name('B'), False)


class Made(Case):

    def test_in_row(self):
        names = mixed_names(40)
        for many in range(1, 41):
            self.same_tree(Tree.in_row(*names[:many]), names[:many], zip(names[:many], names[1:many]))
        self.same_tree(Tree.in_row('c', 'a', 'b'), ('c', 'a', 'b'), (('c', 'a'), ('a', 'b')))

    def test_star(self):
        names = mixed_names(40)
        for many in range(1, 41):
            self.same_tree(Tree.star(*names[:many]), names[:many], [(names[0], name) for name in names[1:many]])
        self.same_tree(Tree.star('c', 'b', 'a'), ('c', 'b', 'a'), (('c', 'b'), ('c', 'a')))
        self.same_tree(Tree.star(centre='c'), ('c',), ())

    def test_no_place_and_too_many(self):
        names = mixed_names(41)
        self.refuses(NoTree, {'word': 'size', 'at': 0}, Tree.in_row)
        self.refuses(NoTree, {'word': 'size', 'at': 0}, Tree.in_row, *names)
        self.refuses(NoTree, {'word': 'size', 'at': 0}, Tree.star, *names)

    def test_names_that_are_refused(self):
        for make in (Tree.in_row, Tree.star):
            self.refuses(NoTree, {'word': 'place', 'at': 0}, make, 'A')
            self.refuses(NoTree, {'word': 'place', 'at': 1}, make, 'a', 'a')
            self.refuses(NoTree, {'word': 'place', 'at': 1}, make, 'a', 'abcdefg', 'a')
            self.refuses(NoTree, {'word': 'place', 'at': 2}, make, 'a', 'b', 'a')
            self.refuses(NoTree, {'word': 'place', 'at': 2}, make, 'a', 'b', 'b')
            self.refuses(NoTree, {'word': 'size', 'at': 0}, make, *['a'] * 41)

    def test_any_value_in_the_place_of_a_name(self):
        for make in (Tree.in_row, Tree.star):
            for value in ANY_VALUES:
                if not isinstance(value, str):
                    self.refuses(NoTree, {'word': 'form', 'at': 0}, make, value)
                    self.refuses(NoTree, {'word': 'form', 'at': 0}, make, 'a', value)
                    self.refuses(NoTree, {'word': 'form', 'at': 0}, make, value, 'a')
                    self.refuses(NoTree, {'word': 'form', 'at': 0}, make, 'A', 'a', 'a', value)
                elif not is_name(value):
                    self.refuses(NoTree, {'word': 'place', 'at': 0}, make, value)
                    self.refuses(NoTree, {'word': 'place', 'at': 1}, make, 'a', value, 'a')


class Document(Case):

    def test_the_example(self):
        self.refuses(NoTree, {'word': 'edge', 'at': 1}, Tree, ('a', 'b', 'c'), (('a', 'b'), ('b', 'a')))

    def test_the_tree_of_the_sessions(self):
        edges = (('a', 'b'), ('b', 'c'), ('c', 'd'), ('c', 'e'))
        tree = Tree(('a', 'b', 'c', 'd', 'e'), edges)
        self.same_tree(tree, 'abcde', edges)
        self.assertEqual(repr(tree), 'Tree(5 places)')


if __name__ == '__main__':
    unittest.main()
