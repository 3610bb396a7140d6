"""Texts of rows: points 49 and 52, with 1, 2, 4 and 14."""

import itertools
import random
import unittest

from tests.kit import Case
from tests.lines import changed_text
from tests.troops import P, T, some_troops
from towgrove.errors import NoText
from towgrove.parties import Party
from towgrove.texts import read_row, show_row
from towgrove.webs import Web


class RowTexts(Case):

    def refused(self, row, text, party=P):
        self.refuses(NoText, {'row': row}, read_row, party, text)

    def test_there_and_back(self):
        chance = random.Random(1)
        for troop in some_troops(seed=1, times=3):
            row = troop.any_row(chance, 9)
            for given in (row, list(row)):
                text = show_row(given)
                self.assertIs(text.__class__, str)
                self.assertEqual(text, ', '.join(f'{walker} {place}' for walker, place in row))
                found = read_row(troop.party, text)
                self.assertIs(found.__class__, tuple)
                self.assertTrue(all(pull.__class__ is tuple for pull in found))
                self.assertEqual(found, row)

    def test_the_empty_row(self):
        self.assertEqual((show_row(()), show_row([]), show_row(row=())), ('', '', ''))
        self.assertEqual(read_row(P, ''), ())
        self.assertEqual(read_row(text='', party=P), ())

    def test_by_name(self):
        self.assertEqual(show_row(row=[('p', 'e'), ('r', 'd')]), 'p e, r d')
        self.assertEqual(read_row(text='p e, r d, p e', party=P), (('p', 'e'), ('r', 'd'), ('p', 'e')))

    def test_each_pull(self):
        for pull in itertools.product(P.walkers, T.places):
            self.assertEqual(read_row(P, f'{pull[0]} {pull[1]}'), (pull,))

    def test_pulls_that_are_not_exactly_a_walker_and_a_place(self):
        for pull in ('p', 'e', 'p e e', 'p  e', ' p e', 'p e ', 'e p', 'x e', 'p x', 'P e', 'p E', 'p,e', 'p e,', ',p e', '', ' ', '  ', 'p\ne',
                     'p e\n', '\np e', 'p e;', 'pe', 'p e,r d', 'p e;r d', 'p e r d', 'p:e', 'p p', 'a a', 'p e ,'):
            if pull:
                self.refused(0, pull)
            self.refused(0, f'{pull}, p e')
            self.refused(1, f'p e, {pull}')
            self.refused(2, f'p e, r d, {pull}, x x')
            self.refused(1, f'q a, {pull}, {pull}')

    def test_commas(self):
        self.refused(0, ',')
        self.refused(0, ', ')
        self.refused(0, ', p e')
        self.refused(1, 'p e, ')
        self.refused(0, 'p e,')
        self.refused(1, 'p e, , r d')
        self.refused(0, 'p e,, r d')
        self.refused(1, 'p e,  r d')
        self.refused(0, 'p e , r d')
        self.refused(0, 'p e\n, r d')

    def test_the_walkers_and_places_are_those_of_the_party(self):
        other = Party(T.renamed(('p', 'q', 'r', 's', 't')), Web.loose('a', 'b'))
        self.assertEqual(read_row(other, 'a p, b t'), (('a', 'p'), ('b', 't')))
        self.refused(1, 'a p, p a', other)
        self.refused(0, 'p a', other)

    def test_forty_pulls(self):
        row = tuple(itertools.islice(itertools.cycle(itertools.product(P.walkers, T.places)), 40))
        self.assertEqual(read_row(P, show_row(row)), row)
        self.refused(39, show_row(row[:39]) + ', p x')

    def test_texts_that_are_changed(self):
        chance, seen = random.Random(2), {True: 0, False: 0}
        for troop in some_troops(seed=2, times=6):
            pulls = {f'{walker} {place}': (walker, place) for walker, place in troop.pulls()}
            for _ in range(6):
                text = changed_text(show_row(troop.any_row(chance, 6)), chance)
                parts = text.split(', ') if text else []
                bad = [at for at, part in enumerate(parts) if part not in pulls]
                if bad:
                    self.refused(bad[0], text, troop.party)
                else:
                    self.assertEqual(read_row(troop.party, text), tuple(pulls[part] for part in parts))
                seen[bad != []] += 1
        self.assertGreater(min(seen.values()), 40, seen)

    def test_the_row_does_not_change(self):
        row = [('p', 'e'), ('r', 'd')]
        self.assertEqual((show_row(row), show_row(row), row), ('p e, r d', 'p e, r d', [('p', 'e'), ('r', 'd')]))


class Document(Case):

    def test_the_example(self):
        self.assertEqual(show_row((('p', 'e'), ('r', 'd'))), 'p e, r d')


if __name__ == '__main__':
    unittest.main()
