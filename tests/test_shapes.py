"""Balls, branches, ways and whole trees: point 21, with points 2, 4 and 14."""

import itertools
import random
import unittest

from tests.kit import ANY_VALUES, mixed_names
from tests.lands import GroveCase, large_lands, small_lands, some_small_lands
from towgrove.errors import NoMatch, NoPlace
from towgrove.groves import Grove
from towgrove.lengths import Length
from towgrove.shapes import Ball, Branch, Way, Whole
from towgrove.trees import Tree

T = Tree(('a', 'b', 'c', 'd', 'e'), (('a', 'b'), ('b', 'c'), ('c', 'd'), ('c', 'e')))
STRANGERS = ('x', '', 'A', 'a ', 'ab', ' ', '\n')


def all_lands():
    return itertools.chain(small_lands(4), some_small_lands(5, 9), large_lands())


class ShapeCase(GroveCase):

    def check_shape(self, shape, kind, tree, members):
        """Check that this is a grove of this class, and that it is the grove of these places."""
        self.assertIs(shape.__class__, kind)
        self.assertIsInstance(shape, Grove)
        self.assertIs(shape.tree, tree)
        self.check_members(shape, members)
        plain = Grove(tree, members)
        self.assertTrue(shape == plain and plain == shape)
        self.assertFalse(shape != plain or plain != shape)


class Balls(ShapeCase):

    def check_ball(self, land, centre, given, number):
        ball = Ball(land.tree, centre, given)
        members = [place for place in land.places if number is None or land.distance(place, centre) <= number]
        self.check_shape(ball, Ball, land.tree, members)
        self.assertEqual(ball.centre, centre)
        self.assertIs(ball.radius.__class__, Length)
        self.assertEqual(ball.radius.number, number)

    def test_each_place_and_radius(self):
        for land in all_lands():
            for centre in land.places:
                for number in range(min(len(land.places), 6) + 1):
                    self.check_ball(land, centre, number, number)

    def test_lengths_as_radius(self):
        for land in some_small_lands(4, 3):
            for centre in land.places:
                for number in (0, 1, 2, 3, 10 ** 9):
                    self.check_ball(land, centre, Length(number), number)
                self.check_ball(land, centre, Length.free(), None)

    def test_the_greatest_radius(self):
        for land in large_lands():
            for number in (len(land.places) - 2, len(land.places) - 1, len(land.places), 100, 10 ** 9):
                for centre in land.places[:3]:
                    self.check_ball(land, centre, number, number)
                    self.check_ball(land, centre, Length(number), number)

    def test_arguments_by_name(self):
        ball = Ball(radius=1, centre='e', tree=T)
        self.check_shape(ball, Ball, T, ('c', 'e'))
        self.assertEqual((ball.centre, ball.radius), ('e', Length(1)))

    def test_unknown_centres(self):
        for name in STRANGERS:
            for radius in (0, 3, Length(1), Length.free()):
                self.refuses(NoPlace, {'place': name}, Ball, T, name, radius)


class Branches(ShapeCase):

    def test_each_edge_in_both_directions(self):
        for land in all_lands():
            for edge in land.edges:
                for at, away in (edge, edge[::-1]):
                    branch = Branch(land.tree, at, away)
                    members = [place for place in land.places if away in land.paths[place][at]]
                    self.check_shape(branch, Branch, land.tree, members)
                    self.assertEqual(branch.root, away)

    def test_arguments_by_name(self):
        branch = Branch(away='b', at='c', tree=T)
        self.check_shape(branch, Branch, T, ('a', 'b'))
        self.assertEqual(branch.root, 'b')

    def test_no_such_edge(self):
        for land in small_lands(4):
            for at, away in itertools.product(land.places, repeat=2):
                if land.distance(at, away) != 1:
                    self.refuses(NoMatch, {'word': 'edge'}, Branch, land.tree, at, away)

    def test_unknown_places_come_first(self):
        for x, y in itertools.product(STRANGERS, repeat=2):
            self.refuses(NoPlace, {'place': x}, Branch, T, x, y)
            self.refuses(NoPlace, {'place': x}, Branch, T, away=y, at=x)
        for x, known in itertools.product(STRANGERS, T.places):
            self.refuses(NoPlace, {'place': x}, Branch, T, x, known)
            self.refuses(NoPlace, {'place': x}, Branch, T, known, x)


class Ways(ShapeCase):

    def test_each_pair_of_places(self):
        for land in all_lands():
            for one, other in itertools.product(land.places, repeat=2):
                way = Way(land.tree, one, other)
                self.check_shape(way, Way, land.tree, land.in_order(land.paths[one][other]))
                self.assertIs(way.ends.__class__, tuple)
                self.assertEqual(way.ends, (one, other))

    def test_arguments_by_name(self):
        way = Way(other='a', one='d', tree=T)
        self.check_shape(way, Way, T, ('a', 'b', 'c', 'd'))
        self.assertEqual(way.ends, ('d', 'a'))

    def test_unknown_places(self):
        for x, y in itertools.product(STRANGERS, repeat=2):
            self.refuses(NoPlace, {'place': x}, Way, T, x, y)
            self.refuses(NoPlace, {'place': x}, Way, T, other=y, one=x)
        for x, known in itertools.product(STRANGERS, T.places):
            self.refuses(NoPlace, {'place': x}, Way, T, x, known)
            self.refuses(NoPlace, {'place': x}, Way, T, known, x)


class Wholes(ShapeCase):

    def test_each_tree(self):
        for land in all_lands():
            self.check_shape(Whole(land.tree), Whole, land.tree, land.places)
        self.check_shape(Whole(tree=T), Whole, T, T.places)


def shapes_of(tree):
    first, last = tree.places[0], tree.places[-1]
    near = tree.neighbours(first)[0]
    return (Ball(tree, last, 1), Ball(tree, first, Length(2)), Ball(tree, first, Length.free()), Branch(tree, first, near),
            Branch(tree, near, first), Way(tree, first, last), Way(tree, last, last), Whole(tree))


class LikeGroves(ShapeCase):
    """Everything that is said of groves holds for the shapes."""

    def pairs(self):
        for land in itertools.chain(some_small_lands(4, 5), large_lands()):
            shapes, plain = shapes_of(land.tree), [Grove(land.tree, shape.places) for shape in shapes_of(land.tree)]
            for one, other in itertools.product(range(len(shapes)), repeat=2):
                yield land, (shapes[one], plain[one]), (shapes[other], plain[other])

    def test_signs(self):
        for land, (shape, plain), (other, other_plain) in self.pairs():
            for found, wanted in ((shape * other, plain * other_plain), (shape + other, plain + other_plain),
                                  (shape >> other, plain >> other_plain), (plain >> other, plain >> other_plain),
                                  (shape >> other_plain, plain >> other_plain)):
                self.same_grove(found, land.tree, wanted.places)
            self.assertIs(shape == other, plain == other_plain)
            self.assertIs(shape == other_plain, plain == other_plain)

    def test_methods(self):
        for land, (shape, plain), (other, other_plain) in self.pairs():
            self.assertIs(shape.within(other), plain.within(other_plain))
            self.assertEqual(shape.bridge(other), plain.bridge(other_plain))
            self.same_grove(shape.sources(other), land.tree, plain.sources(other_plain).places)

    def test_calls_and_iterators(self):
        for land, (shape, plain), _ in self.pairs():
            self.assertEqual([shape(place) for place in land.places], [plain(place) for place in land.places])
            self.assertEqual(list(shape.leaves()), list(plain.leaves()))
            self.assertEqual(list(shape.border()), list(plain.border()))

    def test_any_value_and_errors(self):
        for shape in shapes_of(T):
            for value in (*ANY_VALUES, T, shape, Length(1)):
                self.assertIs(value in shape, isinstance(value, str) and value in shape.places)
                self.assertIs(shape == value, value is shape)
            self.refuses(NoPlace, {'place': 'x'}, shape, 'x')
            other = Whole(Tree.in_row(*T.places))
            for work in (Grove.within, Grove.bridge, Grove.sources, Grove.__mul__, Grove.__add__, Grove.__rshift__):
                self.refuses(NoMatch, {'word': 'tree'}, work, shape, other)

    def test_properties_cannot_be_assigned(self):
        ball, branch, way, _ = Ball(T, 'a', 1), Branch(T, 'a', 'b'), Way(T, 'a', 'b'), Whole(T)
        for shape, name in ((ball, 'centre'), (ball, 'radius'), (branch, 'root'), (way, 'ends'), (ball, 'places')):
            with self.assertRaises(AttributeError):
                setattr(shape, name, None)

    def test_radius_does_not_count_in_equality(self):
        self.assertTrue(Ball(T, 'a', 4) == Ball(T, 'a', 5) == Ball(T, 'c', 2) == Ball(T, 'c', Length.free()))
        self.assertFalse(Ball(T, 'a', 3) == Ball(T, 'a', 2))


class Long(ShapeCase):

    def test_a_row_of_forty(self):
        names = mixed_names(40)
        tree = Tree.in_row(*names)
        self.check_shape(Ball(tree, names[20], 5), Ball, tree, names[15:26])
        self.check_shape(Ball(tree, names[2], Length(7)), Ball, tree, names[:10])
        self.check_shape(Branch(tree, names[9], names[10]), Branch, tree, names[10:])
        self.check_shape(Branch(tree, names[10], names[9]), Branch, tree, names[:10])
        self.check_shape(Way(tree, names[30], names[4]), Way, tree, names[4:31])
        chance = random.Random(4)
        for _ in range(20):
            one, other = sorted(chance.sample(range(40), 2))
            self.check_shape(Way(tree, names[other], names[one]), Way, tree, names[one:other + 1])


if __name__ == '__main__':
    unittest.main()
