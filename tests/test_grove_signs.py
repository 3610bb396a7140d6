"""What `*`, `+` and `>>` make of two groves: point 22, with points 2, 6 and 12."""

import itertools
import operator
import random
import unittest

from tests.lands import GroveCase, Land, grove_pairs, large_lands, small_lands
from towgrove.errors import NoMatch
from towgrove.groves import Grove
from towgrove.shapes import Ball, Branch, Way, Whole
from towgrove.trees import Tree

T = Tree(('a', 'b', 'c', 'd', 'e'), (('a', 'b'), ('b', 'c'), ('c', 'd'), ('c', 'e')))


class Signs(GroveCase):

    def test_common_places(self):
        for land, members, others in grove_pairs():
            common = land.in_order(set(members) & set(others))
            self.same_grove(Grove(land.tree, members) * Grove(land.tree, others), land.tree, common)

    def test_the_smallest_grove_with_both(self):
        for land, members, others in grove_pairs(seed=2):
            hull = land.hull(set(members) | set(others))
            self.same_grove(Grove(land.tree, members) + Grove(land.tree, others), land.tree, hull)

    def test_gates_one_after_the_other(self):
        for land, members, others in grove_pairs(seed=3):
            one, other = Grove(land.tree, members), Grove(land.tree, others)
            if not members or not others:
                self.refuses(NoMatch, {'word': 'empty'}, operator.rshift, one, other)
                continue
            found = one >> other
            self.same_grove(found, land.tree, land.led(members, others))
            for place in land.places:
                self.assertEqual(found(place), other(one(place)))
                self.assertEqual(found(place), land.gate(others, land.gate(members, place)))

    def test_three_in_a_row(self):
        chance = random.Random(5)
        for land in large_lands():
            for _ in range(10):
                a, b, c = [Grove(land.tree, land.any_grove(chance, least=1)) for _ in range(3)]
                self.assertEqual((a >> b) >> c, a >> (b >> c))
                self.assertEqual(a >> a, a)
                self.assertEqual(a >> b >> a >> b, b >> a >> b)

    def test_an_empty_one(self):
        for land in small_lands(4):
            empty = Grove(land.tree, ())
            for members in land.every_grove():
                grove = Grove(land.tree, members)
                for found in (grove * empty, empty * grove):
                    self.same_grove(found, land.tree, ())
                for found in (grove + empty, empty + grove):
                    self.same_grove(found, land.tree, members)
                self.refuses(NoMatch, {'word': 'empty'}, operator.rshift, grove, empty)
                self.refuses(NoMatch, {'word': 'empty'}, operator.rshift, empty, grove)

    def test_apart_on_a_small_tree(self):
        for one, other, led, hull in (
                ('a', 'd', 'd', 'abcd'), ('d', 'a', 'a', 'abcd'), ('ab', 'cde', 'c', 'abcde'), ('cde', 'ab', 'b', 'abcde'),
                ('a', 'cde', 'c', 'abcde'), ('d', 'e', 'e', 'cde'), ('a', 'ce', 'c', 'abce'), ('b', 'ce', 'c', 'bce')):
            grove, last = Grove(T, tuple(one)), Grove(T, tuple(other))
            self.same_grove(grove >> last, T, tuple(led))
            self.same_grove(grove + last, T, tuple(hull))
            self.same_grove(grove * last, T, ())


class Trees(GroveCase):

    def test_the_result_has_the_first_of_equal_trees(self):
        for land in itertools.chain(small_lands(3), large_lands()):
            first, second = land.tree, land.other_tree()
            chance = random.Random(len(land.places))
            for _ in range(5):
                members, others = land.any_grove(chance, least=1), land.any_grove(chance, least=1)
                one, other = Grove(first, members), Grove(second, others)
                self.same_grove(one * other, first, land.in_order(set(members) & set(others)))
                self.same_grove(one + other, first, land.hull(set(members) | set(others)))
                self.same_grove(one >> other, first, land.led(members, others))
                self.same_grove(other >> one, second, land.led(others, members))
                self.same_grove(other * one, second, land.in_order(set(members) & set(others)))
                self.same_grove(other + one, second, land.hull(set(members) | set(others)))

    def test_unequal_trees(self):
        names = ('a', 'b', 'c', 'd')
        trees = (Tree.in_row(*names), Tree.star(*names), Tree.in_row('b', 'a', 'c', 'd'), Tree.in_row('a', 'b', 'c'))
        for one, other in itertools.permutations(trees, 2):
            for places, others in itertools.product(((), ('a',), ('a', 'b')), repeat=2):
                for sign in (operator.mul, operator.add, operator.rshift):
                    self.refuses(NoMatch, {'word': 'tree'}, sign, Grove(one, places), Grove(other, others))
                    self.refuses(NoMatch, {'word': 'tree'}, sign, Grove(one, places), Whole(other))

    def test_nothing_changes(self):
        groves = [Grove(T, ('a', 'b')), Ball(T, 'e', 1), Branch(T, 'c', 'd'), Way(T, 'a', 'd'), Whole(T), Grove(T, ())]
        before = [(grove.places, grove.tree, repr(grove)) for grove in groves]
        first = [self.signs(*pair) for pair in itertools.product(groves, repeat=2)]
        again = [self.signs(*pair) for pair in itertools.product(groves, repeat=2)]
        self.assertEqual(first, again)
        self.assertEqual(before, [(grove.places, grove.tree, repr(grove)) for grove in groves])

    def signs(self, one, other):
        return one * other, one + other, one >> other if one and other else None


class Document(GroveCase):

    def test_the_example(self):
        ball = Ball(T, 'e', 1)
        self.assertEqual((Branch(T, 'c', 'b') >> ball).places, ('c',))
        self.assertEqual((ball >> Branch(T, 'c', 'b')).places, ('b',))

    def test_two_groves_on_a_row(self):
        land = Land(('u', 'v', 'w', 'x', 'y'), (('u', 'v'), ('v', 'w'), ('w', 'x'), ('x', 'y')))
        one, other = Grove(land.tree, ('u', 'v')), Grove(land.tree, ('x', 'y'))
        self.same_grove(one >> other, land.tree, ('x',))
        self.same_grove(other >> one, land.tree, ('v',))
        self.same_grove(one + other, land.tree, ('u', 'v', 'w', 'x', 'y'))
        self.same_grove(one * other, land.tree, ())


if __name__ == '__main__':
    unittest.main()
