"""The names, parameters and kinds of the interface: points 1 to 3 and the last section of the document."""

import ast
import importlib
import inspect
import itertools
import pathlib
import random
import unittest

from tests.kit import Case
from tests.troops import P, T, W
from towgrove.camps import Camp, Trial
from towgrove.derived import beside, on_tree, part, translated
from towgrove.desks import Desk
from towgrove.effects import effect_of, effects
from towgrove.groves import Grove
from towgrove.hauls import Haul
from towgrove.lengths import Length
from towgrove.parties import Party
from towgrove.rests import common_rest, commute, rest_holds
from towgrove.rows import counting, parting, shortened, trimmed
from towgrove.shapes import Ball, Branch, Way, Whole
from towgrove.sights import fitting, fitting_holds, spans
from towgrove.texts import read_party, read_row, read_tree, show_party, show_row, show_tree
from towgrove.trees import Tree
from towgrove.webs import Web
from towgrove.wishes import lead_holds, lead_to

# For each module its functions, with their parameters.
FUNCTIONS = {
    'rows': {'shortened': 'row', 'counting': 'party, row', 'trimmed': 'party, row', 'parting': 'party, row, other'},
    'wishes': {'lead_to': 'party, book, standing, wish', 'lead_holds': 'party, book, standing, wish, answer'},
    'rests': {'common_rest': 'party, rows', 'rest_holds': 'party, rows, answer', 'commute': 'party, row, other'},
    'effects': {'effects': 'party, book', 'effect_of': 'party, book, row'},
    'sights': {'fitting': 'tree, walkers, sights', 'fitting_holds': 'tree, walkers, sights, answer', 'spans': 'tree, walkers, sights'},
    'texts': {'show_tree': 'tree', 'read_tree': 'text', 'show_party': 'party', 'read_party': 'text', 'show_row': 'row',
              'read_row': 'party, text'},
    'derived': {'beside': 'party, other', 'part': 'party, walkers', 'on_tree': 'party, tree', 'translated': 'party, places, walkers'},
}

# For each class its module, parameters, properties, methods with their parameters, static and class methods, and signs.
CLASSES = {
    'Length': ('lengths', 'number', 'number is_free', {}, {'least': 'first, *others'}, {'free': ''},
               'add lt le gt ge eq str repr'),
    'Tree': ('trees', 'places, edges', 'places edges',
             {'neighbours': 'place', 'distance': 'a, b', 'toward': 'a, b', 'median': 'a, b, c', 'path': 'a, b', 'walk': 'place',
              'cut': 'a, b', 'grafted': 'other, at, to', 'renamed': 'names'}, {'is_name': 'value'},
             {'in_row': '*places', 'star': 'centre, *leaves'}, 'len contains eq repr'),
    'Grove': ('groves', 'tree, places', 'tree places',
              {'within': 'other', 'bridge': 'other', 'sources': 'other', 'leaves': '', 'border': '', '__call__': 'place'}, {}, {},
              'mul add rshift len bool contains eq repr'),
    'Ball': ('shapes', 'tree, centre, radius', 'centre radius', {}, {}, {}, ''),
    'Branch': ('shapes', 'tree, at, away', 'root', {}, {}, {}, ''),
    'Way': ('shapes', 'tree, one, other', 'ends', {}, {}, {}, ''),
    'Whole': ('shapes', 'tree', '', {}, {}, {}, ''),
    'Web': ('webs', 'walkers, ropes', 'walkers ropes',
            {'reach': 'a, b', 'chain': 'a, b', 'tied': 'a, b, length', 'loosened': 'a, b', 'only': 'walkers', 'tighter': 'other'}, {},
            {'loose': '*walkers', 'complete': 'walkers, length'}, 'len contains eq repr'),
    'Party': ('parties', 'tree, web', 'tree web walkers',
              {'gathered': 'place', 'check': 'value, *, legal=True', 'pull': 'walker, place', 'haul': 'row', 'haul_of': '*pulls',
               'steps': 'standing, walker, place', 'table': ''}, {}, {}, 'eq repr'),
    'Haul': ('hauls', 'party, groves', 'party groves forgotten',
             {'within': 'other', 'apart': 'other', 'differs': 'other', 'sources': 'other', '__call__': 'standing'}, {},
             {'still': 'party'}, 'rshift bool contains eq repr'),
    'Camp': ('camps', 'party, standing', 'party standing depth',
             {'place_all': 'standing', 'pull': 'walker, place', 'several': 'row, *, whole=True', 'undo': '', 'log': '', 'trial': '',
              'in_trial': 'work', 'supposed': 'row', 'tried': 'row, *, wish', 'nested': 'rows, *, kept=()', 'copied': ''}, {}, {},
             'len eq repr'),
    'Desk': ('desks', '', '', {'say': 'command'}, {}, {}, 'len'),
}

ERRORS = {
    'TowError': None, 'BuildError': None, 'UseError': None, 'NoTree': 'word, at', 'NoGrove': 'one, other', 'NoWeb': 'word, at',
    'NoText': 'row', 'NoStanding': 'word, at', 'NoMatch': 'word', 'Broken': 'at', 'Unexplained': None, 'NoCommand': None,
    'NoPlace': 'place', 'NoWalker': 'walker',
}

MODULES = sorted({*FUNCTIONS, *[row[0] for row in CLASSES.values()], 'errors'})


def parameters(work, bound):
    """The parameters of a function as they are written, without the first one of a method."""
    found = inspect.signature(work)
    kept = list(found.parameters.values())[1 if bound else 0:]
    return str(found.replace(parameters=kept, return_annotation=inspect.Signature.empty))[1:-1]


def of(module, name):
    return getattr(importlib.import_module(f'towgrove.{module}'), name)


class Names(Case):

    def test_functions(self):
        for module, functions in FUNCTIONS.items():
            for name, wanted in functions.items():
                work = of(module, name)
                self.assertTrue(inspect.isfunction(work))
                self.assertEqual((work.__module__, work.__name__), (f'towgrove.{module}', name))
                self.assertEqual(parameters(work, False), wanted)

    def test_classes(self):
        for name, (module, wanted, properties, methods, static, of_class, signs) in CLASSES.items():
            kind = of(module, name)
            self.assertTrue(inspect.isclass(kind))
            self.assertEqual((kind.__module__, kind.__name__), (f'towgrove.{module}', name))
            self.assertEqual(parameters(kind, False), wanted)
            body = vars(kind)
            for one in properties.split():
                self.assertIsInstance(body[one], property, one)
            for one, given in methods.items():
                self.assertTrue(inspect.isfunction(body[one]), one)
                self.assertEqual(parameters(body[one], True), given, one)
            for one, given in static.items():
                self.assertIsInstance(body[one], staticmethod)
                self.assertEqual(parameters(body[one].__func__, False), given)
            for one, given in of_class.items():
                self.assertIsInstance(body[one], classmethod)
                self.assertEqual(parameters(body[one].__func__, True), given)
            for sign in signs.split():
                self.assertIn(f'__{sign}__', body)

    def test_trials(self):
        self.assertEqual(Trial.__module__, 'towgrove.camps')
        for name in ('keep', '__enter__', '__exit__'):
            self.assertIn(name, vars(Trial))
        self.assertEqual(parameters(vars(Trial)['keep'], True), '')

    def test_errors(self):
        for name, wanted in ERRORS.items():
            kind = of('errors', name)
            self.assertEqual((kind.__module__, kind.__name__), ('towgrove.errors', name))
            if wanted is not None:
                self.assertEqual(parameters(kind, False), wanted)
        self.assertEqual(sorted(ERRORS), sorted(
            name for name, kind in vars(importlib.import_module('towgrove.errors')).items() if inspect.isclass(kind)))

    def test_properties_are_not_assigned(self):
        camp, haul = Camp(P, ('a', 'a', 'a')), P.pull('p', 'e')
        for thing in (T, W, P, camp, haul, haul.groves[0], Length(3), Ball(T, 'a', 1), Branch(T, 'c', 'b'), Way(T, 'a', 'e')):
            for name, row in CLASSES.items():
                if isinstance(thing, of(row[0], name)):
                    for one in row[2].split():
                        with self.assertRaises(AttributeError):
                            setattr(thing, one, None)

    def test_the_package_holds_modules_and_no_tests(self):
        folder = pathlib.Path(importlib.import_module('towgrove').__file__).parent
        body = ast.parse((folder / '__init__.py').read_text()).body
        self.assertEqual(len(body), 1)
        self.assertIsInstance(body[0].value.value, str)
        names = {path.stem for path in folder.glob('*.py')}
        self.assertLessEqual(set(MODULES), names)
        self.assertFalse([name for name in names if name.startswith('test')])


ROW = (('p', 'e'), ('r', 'd'))
WISH = Haul(P, (Way(T, 'e', 'e'), Whole(T), Way(T, 'd', 'd')))
SIGHTS = ((('a', 'a', 'a'), ('p', 'e'), ('e', 'b', 'a')),)
GROVE, BALL, HAUL, STILL = Grove(T, ('a', 'b')), Ball(T, 'e', 1), P.pull('p', 'e'), Haul.still(P)
STANDING = ('a', 'a', 'a')


def fresh():
    camp = Camp(P, STANDING)
    camp.pull('p', 'e')
    return camp


def on_camp(name):
    """A method of a camp, on a new one at each call; what it returns and how it leaves the camp."""
    def call(*values, **named):
        camp = fresh()
        return getattr(camp, name)(*values, **named), camp.standing, camp.log(), len(camp), camp.depth
    return call


# Calls of all functions, classes and methods with parameters: positional ones, then those that are passed by name only.
CALLS = [
    (Length, {'number': 3}, {}), (Tree, {'places': ('a', 'b'), 'edges': (('a', 'b'),)}, {}), (Tree.is_name, {'value': 'ab'}, {}),
    (T.neighbours, {'place': 'c'}, {}), (T.distance, {'a': 'a', 'b': 'e'}, {}), (T.toward, {'a': 'a', 'b': 'e'}, {}),
    (T.median, {'a': 'a', 'b': 'd', 'c': 'e'}, {}), (T.path, {'a': 'a', 'b': 'e'}, {}), (T.walk, {'place': 'c'}, {}),
    (T.cut, {'a': 'c', 'b': 'b'}, {}), (T.grafted, {'other': Tree.in_row('x', 'y'), 'at': 'a', 'to': 'y'}, {}),
    (T.renamed, {'names': ('v', 'w', 'x', 'y', 'z')}, {}),
    (Grove, {'tree': T, 'places': ('b', 'a')}, {}), (GROVE.within, {'other': BALL}, {}), (GROVE.bridge, {'other': BALL}, {}),
    (GROVE.sources, {'other': Whole(T)}, {}), (GROVE, {'place': 'e'}, {}), (Ball, {'tree': T, 'centre': 'e', 'radius': 1}, {}),
    (Branch, {'tree': T, 'at': 'c', 'away': 'b'}, {}), (Way, {'tree': T, 'one': 'a', 'other': 'e'}, {}), (Whole, {'tree': T}, {}),
    (Web, {'walkers': ('p', 'q'), 'ropes': (('p', 'q', 1),)}, {}), (Web.complete, {'walkers': ('p', 'q'), 'length': 4}, {}),
    (W.reach, {'a': 'p', 'b': 'r'}, {}), (W.chain, {'a': 'p', 'b': 'r'}, {}), (W.tied, {'a': 'p', 'b': 'r', 'length': 1}, {}),
    (W.loosened, {'a': 'p', 'b': 'q'}, {}), (W.only, {'walkers': ('p', 'r')}, {}), (W.tighter, {'other': Web.loose('p', 'q', 'r')}, {}),
    (Party, {'tree': T, 'web': W}, {}), (P.gathered, {'place': 'b'}, {}), (P.check, {'value': ('a', 'e', 'a')}, {'legal': False}),
    (P.pull, {'walker': 'p', 'place': 'e'}, {}), (P.haul, {'row': ROW}, {}),
    (P.steps, {'standing': STANDING, 'walker': 'p', 'place': 'e'}, {}),
    (Haul, {'party': P, 'groves': WISH.groves}, {}), (Haul.still, {'party': P}, {}), (HAUL, {'standing': STANDING}, {}),
    (HAUL.within, {'other': STILL}, {}), (HAUL.apart, {'other': P.pull('q', 'a')}, {}), (HAUL.differs, {'other': HAUL}, {}),
    (HAUL.sources, {'other': STILL}, {}),
    (shortened, {'row': ROW * 2}, {}), (counting, {'party': P, 'row': ROW * 2}, {}), (trimmed, {'party': P, 'row': ROW * 2}, {}),
    (parting, {'party': P, 'row': ROW, 'other': ROW[::-1]}, {}),
    (lead_to, {'party': P, 'book': ROW, 'standing': STANDING, 'wish': WISH}, {}),
    (lead_holds, {'party': P, 'book': ROW, 'standing': STANDING, 'wish': WISH, 'answer': ('row', ROW)}, {}),
    (common_rest, {'party': P, 'rows': (ROW, (('q', 'a'),))}, {}),
    (rest_holds, {'party': P, 'rows': (ROW,), 'answer': ('standing', ('e', 'c', 'd'))}, {}),
    (commute, {'party': P, 'row': ROW, 'other': (('q', 'a'),)}, {}), (effects, {'party': P, 'book': ROW}, {}),
    (effect_of, {'party': P, 'book': ROW, 'row': ROW * 3}, {}), (fitting, {'tree': T, 'walkers': ('p', 'q', 'r'), 'sights': SIGHTS}, {}),
    (fitting_holds, {'tree': T, 'walkers': ('p', 'q', 'r'), 'sights': SIGHTS, 'answer': ('odd', 0, 'p')}, {}),
    (spans, {'tree': T, 'walkers': ('p', 'q', 'r'), 'sights': SIGHTS}, {}),
    (Camp, {'party': P, 'standing': STANDING}, {}), (on_camp('place_all'), {'standing': STANDING}, {}),
    (on_camp('pull'), {'walker': 'r', 'place': 'd'}, {}), (on_camp('several'), {'row': ROW}, {'whole': False}),
    (on_camp('in_trial'), {'work': lambda trial: trial.keep()}, {}), (on_camp('supposed'), {'row': ROW}, {}),
    (on_camp('tried'), {'row': ROW}, {'wish': WISH}), (on_camp('nested'), {'rows': (ROW, ROW)}, {'kept': (0,)}),
    (show_tree, {'tree': T}, {}), (read_tree, {'text': 'places a b\nedge b a'}, {}), (show_party, {'party': P}, {}),
    (read_party, {'text': 'places a\nwalkers p'}, {}), (show_row, {'row': ROW}, {}), (read_row, {'party': P, 'text': 'p e, r d'}, {}),
    (beside, {'party': P, 'other': Party(T, Web.loose('s'))}, {}), (part, {'party': P, 'walkers': ('p', 'r')}, {}),
    (on_tree, {'party': P, 'tree': Tree.in_row('x', 'y')}, {}),
    (translated, {'party': P, 'places': ('v', 'w', 'x', 'y', 'z'), 'walkers': ('k', 'l', 'm')}, {}),
    (lambda command: Desk().say(command=command), {'command': 'party places a ; walkers p'}, {}),
]


def result(work, values, named):
    found = work(*values, **named)
    return list(found) if hasattr(found, '__next__') else found


class Calls(Case):

    def test_arguments_by_position_and_by_name_in_any_order(self):
        for work, given, only in CALLS:
            wanted = result(work, given.values(), only)
            names = list(given.items())
            for order in itertools.islice(itertools.permutations([*names, *only.items()]), 24):
                self.assertEqual(result(work, (), dict(order)), wanted)
            for at in range(len(names)):
                rest = dict([*only.items(), *names[at:][::-1]])
                self.assertEqual(result(work, [value for _, value in names[:at]], rest), wanted)

    def test_the_same_calls_again_behind_others(self):
        chance = random.Random(1)
        first = [result(work, given.values(), only) for work, given, only in CALLS]
        order = list(range(len(CALLS)))
        for _ in range(6):
            chance.shuffle(order)
            for at in order:
                work, given, only = CALLS[at]
                self.assertEqual(result(work, given.values(), only), first[at])

    def test_each_function_and_method_is_called(self):
        called = {getattr(work, '__name__', '') for work, _, _ in CALLS}
        for functions in FUNCTIONS.values():
            self.assertLessEqual(set(functions), called)


if __name__ == '__main__':
    unittest.main()
