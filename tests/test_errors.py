"""The errors: points 13 and 14."""

import itertools
import unittest

from tests.kit import ANY_VALUES, Case
from towgrove import errors
from towgrove.errors import (
    Broken, BuildError, NoCommand, NoGrove, NoMatch, NoPlace, NoStanding, NoText, NoTree, NoWalker, NoWeb, TowError,
    Unexplained, UseError,
)

# Each class with its one base and the names of its arguments.
KINDS = (
    (TowError, ValueError, ()),
    (BuildError, TowError, ()),
    (UseError, TowError, ()),
    (NoTree, BuildError, ('word', 'at')),
    (NoGrove, BuildError, ('one', 'other')),
    (NoWeb, BuildError, ('word', 'at')),
    (NoText, BuildError, ('row',)),
    (NoStanding, UseError, ('word', 'at')),
    (NoMatch, UseError, ('word',)),
    (Broken, UseError, ('at',)),
    (Unexplained, UseError, ()),
    (NoCommand, UseError, ()),
    (NoPlace, KeyError, ('place',)),
    (NoWalker, KeyError, ('walker',)),
)


class Classes(Case):

    def test_each_class_has_exactly_its_base(self):
        for kind, base, _ in KINDS:
            self.assertEqual(kind.__bases__, (base,), kind)

    def test_no_class_is_below_another_one_unless_the_table_says_so(self):
        above = {kind: {kind} for kind, _, _ in KINDS}
        for kind, base, _ in KINDS:
            above[kind] |= above.get(base, {base})
        for kind, _, _ in KINDS:
            for other, _, _ in KINDS:
                self.assertIs(issubclass(kind, other), other in above[kind], (kind, other))

    def test_each_class_is_defined_in_the_module_under_its_name(self):
        for kind, _, _ in KINDS:
            self.assertEqual(kind.__module__, 'towgrove.errors')
            self.assertIs(getattr(errors, kind.__name__), kind)

    def test_no_place_and_no_walker_are_not_tow_errors(self):
        for kind in (NoPlace, NoWalker):
            self.assertFalse(issubclass(kind, TowError))
            self.assertFalse(issubclass(kind, ValueError))
            self.assertTrue(issubclass(kind, LookupError))

    def test_tow_errors_are_value_errors_and_no_key_errors(self):
        for kind, _, _ in KINDS[:12]:
            self.assertTrue(issubclass(kind, ValueError))
            self.assertFalse(issubclass(kind, KeyError))


class Attributes(Case):

    def made(self, kind, names, values):
        """The error made in each way: by position, by name, in another order of names, and both mixed."""
        named = dict(zip(names, values))
        yield kind(*values)
        yield kind(**named)
        yield kind(**dict(reversed(named.items())))
        if len(names) == 2:
            yield kind(values[0], **{names[1]: values[1]})

    def test_arguments_are_kept(self):
        for kind, _, names in KINDS:
            for values in itertools.product(ANY_VALUES, repeat=len(names)):
                for error in self.made(kind, names, values):
                    for name, value in zip(names, values):
                        self.assertIs(getattr(error, name), value, (kind, name))

    def test_errors_can_be_raised_and_caught_by_each_class_above(self):
        for kind, _, names in KINDS:
            values = ('edge', 3)[:len(names)]
            for above in kind.__mro__[:-1]:
                with self.assertRaises(above) as caught:
                    raise kind(*values)
                self.assertIs(caught.exception.__class__, kind)
                self.check_kept(caught.exception, dict(zip(names, values)))

    def test_errors_without_arguments(self):
        for kind in (Unexplained, NoCommand, TowError, BuildError, UseError):
            with self.assertRaises(kind):
                raise kind()

    def test_two_errors_do_not_share_their_attributes(self):
        first = NoTree('edge', 1)
        second = NoTree(at=2, word='ring')
        self.assertEqual((first.word, first.at, second.word, second.at), ('edge', 1, 'ring', 2))


if __name__ == '__main__':
    unittest.main()
