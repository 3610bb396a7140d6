"""Lengths: point 15, and what points 1 and 2 say of them."""

import itertools
import operator
import unittest

from tests.kit import ANY_VALUES, Case
from towgrove.lengths import Length
from towgrove.trees import Tree

NUMBERS = (0, 1, 2, 3, 9, 10, 99, 100, 999, 10 ** 9 - 1, 10 ** 9)
INTEGERS = (0, 1, 2, 7, 10 ** 9, 10 ** 9 + 1, 10 ** 50, 10 ** 100 - 1, 10 ** 100)
ORDERS = (operator.lt, operator.le, operator.gt, operator.ge)


def rank(number):
    """What lengths are ordered by; None is the number of the free length."""
    return float('inf') if number is None else number


def length_of(number):
    return Length.free() if number is None else Length(number)


class Parts(Case):

    def check(self, length, number):
        self.assertIs(length.__class__, Length)
        self.assertEqual(length.number, number)
        self.assertIs(length.number.__class__, number.__class__)
        self.assertIs(length.is_free, number is None)
        self.assertEqual(str(length), 'free' if number is None else str(number))
        self.assertEqual(repr(length), 'Length.free()' if number is None else f'Length({number})')


class Values(Parts):

    def test_number(self):
        for number in NUMBERS:
            self.check(Length(number), number)
            self.check(Length(number=number), number)

    def test_free(self):
        self.check(Length.free(), None)
        self.check(Length(3).free(), None)

    def test_zero_is_not_free(self):
        self.assertIs(Length(0).is_free, False)
        self.assertEqual(Length(0).number, 0)

    def test_texts(self):
        self.assertEqual((str(Length(3)), repr(Length(3))), ('3', 'Length(3)'))
        self.assertEqual((str(Length.free()), repr(Length.free())), ('free', 'Length.free()'))
        self.assertEqual(str(Length(10 ** 9)), '1000000000')
        self.assertEqual(f'{Length(0)} {Length.free()}', '0 free')

    def test_methods_stand_in_the_class_itself(self):
        self.assertEqual(Length.__module__, 'towgrove.lengths')
        for name in ('free', 'least', '__add__', '__eq__', '__str__', '__repr__'):
            self.assertIn(name, vars(Length))
        self.assertIsInstance(vars(Length)['free'], classmethod)
        self.assertIsInstance(vars(Length)['least'], staticmethod)


class Sums(Parts):

    def test_two_lengths(self):
        for a, b in itertools.product((*NUMBERS, None), repeat=2):
            self.check(length_of(a) + length_of(b), None if a is None or b is None else a + b)

    def test_a_length_and_an_integer_on_either_side(self):
        for a, b in itertools.product(NUMBERS, INTEGERS):
            self.check(Length(a) + b, a + b)
            self.check(b + Length(a), a + b)

    def test_free_and_an_integer_on_either_side(self):
        for b in INTEGERS:
            self.check(Length.free() + b, None)
            self.check(b + Length.free(), None)

    def test_sums_can_be_summed_again(self):
        many = Length(10 ** 9) + 10 ** 100
        self.check(many + many, 2 * 10 ** 9 + 2 * 10 ** 100)
        self.check(1 + many + 1, 10 ** 9 + 10 ** 100 + 2)
        self.check(many + Length.free(), None)
        self.assertEqual(many, 10 ** 100 + Length(10 ** 9))
        self.check(sum([Length(1), Length(2), Length(3)]), 6)

    def test_a_sum_changes_neither_part(self):
        a, b = Length(2), Length(3)
        held = a
        a += b
        self.check(a, 5)
        self.check(held, 2)
        self.check(b, 3)
        free = Length.free()
        self.check(free + 1, None)
        self.check(free, None)


class Orders(Case):

    numbers = (*NUMBERS, 10 ** 100, None)

    def lengths(self):
        return [Length(0) + number if number is not None else Length.free() for number in self.numbers]

    def test_all_four_orders(self):
        for (a, b), (x, y) in zip(itertools.product(self.numbers, repeat=2),
                                  itertools.product(self.lengths(), repeat=2)):
            for order in ORDERS:
                self.assertIs(order(x, y), order(rank(a), rank(b)), (order, a, b))

    def test_free_is_the_greatest(self):
        self.assertIs(Length(10 ** 9) + 10 ** 100 < Length.free(), True)
        self.assertIs(Length.free() < Length.free(), False)
        self.assertIs(Length.free() <= Length.free(), True)
        self.assertIs(Length.free() > Length.free(), False)
        self.assertIs(Length.free() >= Length(10 ** 9), True)

    def test_equal_exactly_if_the_same(self):
        for (a, b), (x, y) in zip(itertools.product(self.numbers, repeat=2),
                                  itertools.product(self.lengths(), repeat=2)):
            self.assertIs(x == y, a == b, (a, b))
            self.assertIs(x != y, a != b, (a, b))

    def test_equal_to_nothing_else(self):
        others = (*ANY_VALUES, 3, '3', 'free', 'Length(3)', 'Length.free()', (3,), (0, 3), Tree(('a',), ()))
        for length in (*self.lengths(), Length(3)):
            for other in others:
                self.assertIs(length == other, False)
                self.assertIs(other == length, False)
                self.assertIs(length != other, True)


class Least(Case):

    def test_one(self):
        self.assertEqual(Length.least(Length(4)), Length(4))
        self.assertEqual(Length.least(first=Length(4)), Length(4))
        self.assertEqual(Length.least(Length.free()), Length.free())

    def test_several_in_each_order(self):
        for number in (1, 2, 3, 4):
            for numbers in itertools.product((5, 0, 7, 5, None), repeat=number):
                least = Length.least(*[length_of(a) for a in numbers])
                self.assertIs(least.__class__, Length)
                self.assertEqual(rank(least.number), min(rank(a) for a in numbers))

    def test_it_can_be_called_off_a_length_too(self):
        self.assertEqual(Length(1).least(Length(5), Length(3), Length(4)), Length(3))


class Document(Case):

    def test_the_example(self):
        self.assertEqual((str(Length(2) + 3), 3 + Length.free() == Length.free(), Length(7) < Length.free()),
                         ('5', True, True))


if __name__ == '__main__':
    unittest.main()
