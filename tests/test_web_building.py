"""What a web is: point 24 and the parts of point 25 that need no reach, with points 1, 2, 4 and 14."""

import itertools
import unittest

from tests.kit import ANY_VALUES, Case, nested
from towgrove.errors import NoWalker, NoWeb
from towgrove.lengths import Length
from towgrove.trees import Tree
from towgrove.webs import Web

ROPES = (('p', 'q', 1), ('q', 'r', 2))
W = Web(('p', 'q', 'r'), ROPES)


class WebCase(Case):

    def same_web(self, web, walkers, ropes):
        """Check that a web has just these walkers and ropes, in this order and direction."""
        self.assertIs(web.__class__, Web)
        self.assertIs(web.walkers.__class__, tuple)
        self.assertIs(web.ropes.__class__, tuple)
        self.assertEqual(web.walkers, tuple(walkers))
        self.assertEqual(web.ropes, tuple(ropes))
        self.assertEqual(len(web), len(walkers))
        self.assertEqual(repr(web), f'Web({len(walkers)} walkers)')

    def no_web(self, word, at, walkers, ropes):
        self.refuses(NoWeb, {'word': word, 'at': at}, Web, walkers, ropes)


class Building(WebCase):

    def test_walkers_and_ropes_are_kept(self):
        for walkers, ropes in ((('p',), ()), (('p', 'q', 'r'), ROPES), (('r', 'q', 'p'), ROPES[::-1]),
                               (('a', 'bcdefg', 'h', 'i', 'j', 'k'), (('k', 'a', 0), ('a', 'k', 100))),
                               (('p', 'q'), (('p', 'q', 3), ('p', 'q', 3), ('q', 'p', 2)) * 5)):
            self.same_web(Web(walkers, ropes), walkers, ropes)
            self.same_web(Web(ropes=ropes, walkers=walkers), walkers, ropes)

    def test_each_number_of_walkers(self):
        for many in range(8):
            walkers = ('p', 'q', 'r', 's', 't', 'u', 'v')[:many]
            if 1 <= many <= 6:
                self.same_web(Web(walkers, ()), walkers, ())
            else:
                self.no_web('size', 0, walkers, ())
                self.no_web('size', 0, walkers, (('p', 'p', -1),))

    def test_long_ropes(self):
        web = Web(('p', 'q'), (('p', 'q', 10 ** 30), ('q', 'p', 10 ** 20)))
        self.assertEqual(web.reach('p', 'q').number, 10 ** 20)

    def test_properties_cannot_be_assigned(self):
        for name in ('walkers', 'ropes'):
            with self.assertRaises(AttributeError):
                setattr(W, name, None)
        self.same_web(W, ('p', 'q', 'r'), ROPES)


class Form(WebCase):

    def test_any_value_as_walkers(self):
        for value in (*ANY_VALUES, W, Length(1), Tree(('p',), ())):
            if isinstance(value, tuple) and all(isinstance(item, str) for item in value):
                continue
            self.no_web('form', 0, value, ())
            self.no_web('form', 0, value, (('p', 'p', -1),))

    def test_any_value_as_one_of_the_walkers(self):
        for value in (*ANY_VALUES, W, Length(1)):
            if not isinstance(value, str):
                for walkers in ((value,), ('p', value), (value, 'p'), ('p', 'p', value)):
                    self.no_web('form', 0, walkers, ())

    def test_any_value_as_ropes(self):
        for value in (*ANY_VALUES, W, Length(1)):
            if value != ():
                self.no_web('form', 0, ('p', 'q'), value)

    def test_any_value_as_one_of_the_ropes(self):
        for value in (*ANY_VALUES, W, Length(1)):
            for ropes in ((value,), (('p', 'q', 1), value), (value, ('p', 'q', 1)), (('p', 'p', 1), value)):
                self.no_web('form', 0, ('p', 'q'), ropes)

    def test_any_value_as_a_part_of_a_rope(self):
        for value in (*ANY_VALUES, W, Length(1)):
            if not isinstance(value, str):
                self.no_web('form', 0, ('p', 'q'), ((value, 'q', 1),))
                self.no_web('form', 0, ('p', 'q'), (('p', 'q', 1), ('p', value, 1)))
            if not isinstance(value, int) or isinstance(value, bool):
                self.no_web('form', 0, ('p', 'q'), (('p', 'q', value),))
                self.no_web('form', 0, ('p', 'q'), (('p', 'q', 1), ('p', 'q', value)))

    def test_true_and_false_are_no_lengths(self):
        for value in (True, False):
            self.no_web('form', 0, ('p', 'q'), (('p', 'q', value),))
            self.no_web('form', 0, ('p', 'p'), (('p', 'x', -1), ('p', 'q', value)))

    def test_ropes_that_are_too_short_or_too_long(self):
        for rope in ((), ('p',), ('p', 'q'), ('p', 'q', 1, 2), ('p', 'q', 1, 'r'), (('p', 'q', 1),), ('p', 'q', (1,)),
                     nested(8, 'p'), nested(7, ('p', 'q', 1))):
            self.no_web('form', 0, ('p', 'q'), (rope,))

    def test_lists_are_no_tuples(self):
        self.no_web('form', 0, ['p', 'q'], ())
        self.no_web('form', 0, ('p', 'q'), [])
        self.no_web('form', 0, ('p', 'q'), [('p', 'q', 1)])
        self.no_web('form', 0, ('p', 'q'), (['p', 'q', 1],))

    def test_form_comes_first(self):
        self.no_web('form', 0, (), ((),))
        self.no_web('form', 0, ('p',) * 7, (1,))
        self.no_web('form', 0, ('P', 'p', 'p'), ('pq1',))
        self.no_web('form', 0, ('p', 'p', None), (('p', 'p', -1),))


class Walkers(WebCase):

    def test_strings_that_are_no_names(self):
        for name in ('', 'A', 'aB', 'a1', 'a b', ' a', 'a ', 'abcdefg', 'a\n', '\n', '-', 'x' * 3000):
            for before in range(6):
                walkers = ('p', 'q', 'r', 's', 't')[:before] + (name,)
                self.no_web('walker', before, walkers, ())
                self.no_web('walker', before, (walkers + ('p',))[:6], ())

    def test_repeated_walkers(self):
        self.no_web('walker', 1, ('p', 'p'), ())
        self.no_web('walker', 3, ('p', 'q', 'r', 'p', 'q'), ())
        self.no_web('walker', 2, ('p', 'q', 'q', 'P', 'p'), ())
        self.no_web('walker', 2, ('p', 'q', 'Q', 'p'), ())

    def test_size_comes_before_walkers_and_walkers_before_ropes(self):
        self.no_web('size', 0, ('p',) * 7, ())
        self.no_web('size', 0, ('P',) * 7, (('p', 'p', 1),))
        self.no_web('size', 0, (), (('p', 'q', 1),))
        self.no_web('walker', 1, ('p', 'P'), (('p', 'p', 1),))
        self.no_web('walker', 0, ('P',), (('p', 'q', -1),))


class Ropes(WebCase):

    def test_an_end_that_is_no_walker(self):
        for name in ('x', '', 'P', 'pq', ' p', '\n', 'abcdefgh'):
            self.no_web('rope', 0, ('p', 'q'), ((name, 'q', 1),))
            self.no_web('rope', 0, ('p', 'q'), (('q', name, 1),))
            self.no_web('rope', 0, ('p', 'q'), ((name, name, 1),))
            self.no_web('rope', 1, ('p', 'q'), (('p', 'q', 1), (name, 'p', 1), ('p', 'p', 1)))

    def test_the_same_two_ends(self):
        self.no_web('rope', 0, ('p',), (('p', 'p', 0),))
        self.no_web('rope', 2, ('p', 'q'), (('p', 'q', 1), ('q', 'p', 1), ('q', 'q', 1)))

    def test_negative_lengths(self):
        for length in (-1, -2, -10 ** 30):
            self.no_web('rope', 0, ('p', 'q'), (('p', 'q', length),))
            self.no_web('rope', 1, ('p', 'q'), (('p', 'q', 0), ('q', 'p', length), ('p', 'p', 1)))

    def test_the_first_wrong_one(self):
        wrong = (('x', 'q', 1), ('q', 'q', 1), ('p', 'q', -1), ('p', 'x', -5))
        for many in range(4):
            for last in itertools.permutations(wrong, 2):
                self.no_web('rope', many, ('p', 'q'), (('p', 'q', 1),) * many + last)


class Loose(WebCase):

    def test_webs_without_ropes(self):
        for walkers in (('p',), ('q', 'p'), ('a', 'b', 'c', 'd', 'e', 'fghijk')):
            self.same_web(Web.loose(*walkers), walkers, ())
            self.assertEqual(Web.loose(*walkers), Web(walkers, ()))
        self.same_web(W.loose('x'), ('x',), ())

    def test_errors(self):
        for walkers, word, at in (((), 'size', 0), (tuple('abcdefg'), 'size', 0), (('p', 'P'), 'walker', 1),
                                  (('p', 'q', 'p'), 'walker', 2), (('p', None), 'form', 0), ((('p',),), 'form', 0)):
            self.refuses(NoWeb, {'word': word, 'at': at}, Web.loose, *walkers)


class Complete(WebCase):

    def test_each_number_of_walkers(self):
        for many, length in itertools.product(range(1, 7), (0, 1, 7, 100)):
            walkers = ('z', 'b', 'q', 'aa', 'm', 'c')[:many]
            ropes = [(walkers[one], walkers[other], length) for one in range(many) for other in range(one + 1, many)]
            self.same_web(Web.complete(walkers, length), walkers, ropes)
            self.same_web(Web.complete(length=length, walkers=walkers), walkers, ropes)

    def test_one_walker_has_no_rope_whatever_the_length(self):
        for length in (0, 5, 100, -1, -7, 10 ** 30):
            self.same_web(Web.complete(('p',), length), ('p',), ())

    def test_errors(self):
        for walkers, length, word, at in (
                ((), 1, 'size', 0), (tuple('abcdefg'), 1, 'size', 0), (('p', 'P'), 1, 'walker', 1),
                (('p', 'q', 'p'), 1, 'walker', 2), (('P',), 1, 'walker', 0), (('p', 'q'), -1, 'rope', 0),
                (('p', 'q', 'r'), -3, 'rope', 0), (('p', 'p'), -1, 'walker', 1), (tuple('abcdefg'), -1, 'size', 0)):
            self.refuses(NoWeb, {'word': word, 'at': at}, Web.complete, walkers, length)


class Containing(WebCase):

    def test_any_value(self):
        web = Web(('a', 'abcdef', 'z'), ())
        for value in (*ANY_VALUES, web, Length(1), (web,), ('a', web)):
            self.assertIs(value in web, isinstance(value, str) and value in ('a', 'abcdef', 'z'))

    def test_unknown_walkers(self):
        for x, y in itertools.product(('x', '', 'P', 'p ', 'pq', '\n'), repeat=2):
            for work in (Web.reach, Web.chain, Web.loosened):
                self.refuses(NoWalker, {'walker': x}, work, W, x, y)
                self.refuses(NoWalker, {'walker': x}, work, W, b=y, a=x)
                for known in W.walkers:
                    self.refuses(NoWalker, {'walker': x}, work, W, x, known)
                    self.refuses(NoWalker, {'walker': x}, work, W, known, x)


if __name__ == '__main__':
    unittest.main()
