"""Texts of trees and of parties: points 49 to 51, with 1, 2, 4 and 14."""

import random
import unittest

from tests.kit import Case, large_trees, some_trees
from tests.lines import changed_text, slow_party, slow_tree, some_texts
from tests.troops import P, T, W, some_troops
from towgrove.errors import NoText
from towgrove.parties import Party
from towgrove.texts import read_party, read_tree, show_party, show_tree
from towgrove.trees import Tree
from towgrove.webs import Web

TREE = 'places a b c d\nedge a b\nedge c b\nedge c d'
PARTY = TREE + '\nwalkers p q r\nrope p q 1\nrope r q 20\nrope q p 0'

# First lines with the word `places`, their names, and whether they are allowed: the others are changed in one word or sign.
NAME_LINES = (
    ('W a', True), ('W a b c', True), ('W abcdef', True), ('W edge', True), ('W b a', True),
    ('W', False), ('W ', False), ('W  a', False), (' W a', False), ('W a ', False), ('W a  b', False), ('W a a', False),
    ('W a b a', False), ('W A', False), ('W a1', False), ('W abcdefg', False), ('W a,b', False), ('W a, b', False), ('w a', False),
    ('W: a', False), ('Ws a', False), ('', False), (' ', False), ('a', False), ('W a ;', False), ('W 1', False), ('W a-b', False),
)


class TreeTexts(Case):

    def refused(self, row, text):
        self.refuses(NoText, {'row': row}, read_tree, text)

    def test_there_and_back(self):
        for places, edges in some_trees():
            tree = Tree(places, edges)
            text = show_tree(tree)
            self.assertIs(text.__class__, str)
            self.assertEqual(text, '\n'.join([f"places {' '.join(places)}", *[f'edge {a} {b}' for a, b in edges]]))
            self.same_tree(read_tree(text), places, edges)

    def test_by_name_and_shape(self):
        self.assertEqual(show_tree(tree=T), 'places a b c d e\nedge a b\nedge b c\nedge c d\nedge c e')
        self.same_tree(read_tree(text=TREE), ('a', 'b', 'c', 'd'), (('a', 'b'), ('c', 'b'), ('c', 'd')))
        self.same_tree(read_tree('places x'), ('x',), ())
        self.same_tree(read_tree('places places edge\nedge edge places'), ('places', 'edge'), (('edge', 'places'),))
        self.assertEqual(show_tree(Tree.in_row('x')), 'places x')

    def test_the_first_line(self):
        for line, allowed in NAME_LINES:
            line = line.replace('W', 'places')
            names = line.split(' ')[1:]
            edges = [f'edge {a} {b}' for a, b in zip(names, names[1:])]
            text = '\n'.join([line, *edges])
            if allowed:
                self.assertEqual(read_tree(text).places, tuple(names))
            else:
                self.refused(0, text)
                self.refused(0, line)
                self.refused(0, line + '\nedge x y\n')

    def test_the_empty_text_and_empty_lines(self):
        self.refused(0, '')
        self.refused(0, '\n')
        self.refused(0, '\n' + TREE)
        self.refused(4, TREE + '\n')
        self.refused(4, TREE + '\n\n')
        self.refused(4, TREE + '\n ')
        self.refused(2, TREE.replace('\nedge c b', '\n\nedge c b'))
        self.refused(1, TREE.replace('\n', '\n\n'))
        self.refused(1, 'places a\n')

    def test_lines_of_edges(self):
        for line in ('edge a', 'edge', 'edge a b c', 'edge a a', 'edge a x', 'edge x a', 'edge a B', 'edge  a c', 'edge a  c', ' edge a c',
                     'edge a c ', 'Edge a c', 'edges a c', 'rope a c 1', 'a c', 'edge a,c', 'edge a, c', 'edge c b a', 'edge a d 1',
                     'places a b c d', 'walkers p', '', ' ', 'edge a d\t', 'EDGE a d', 'edge edge a'):
            for at in range(1, 5):
                lines = TREE.split('\n')
                lines[at:at] = [line]
                self.refused(at, '\n'.join(lines))
                self.refused(at, '\n'.join([*lines, '', 'edge x y']))

    def test_edges_between_places_that_earlier_lines_connect(self):
        self.refused(2, 'places a b c\nedge a b\nedge a b')
        self.refused(2, 'places a b c\nedge a b\nedge b a')
        self.refused(3, 'places a b c\nedge a b\nedge b c\nedge c a')
        self.refused(5, 'places a b c d e f\nedge a b\nedge c d\nedge d e\nedge b c\nedge a e\nedge a f')
        self.refused(4, TREE + '\nedge a d')

    def test_places_that_are_not_connected(self):
        self.refused(1, 'places a b')
        self.refused(2, 'places a b c\nedge a b')
        self.refused(3, 'places a b c d\nedge a b\nedge c d')
        self.refused(2, 'places a b c\nedge c b')
        for at in range(1, 4):
            lines = TREE.split('\n')
            del lines[at]
            self.refused(3, '\n'.join(lines))

    def test_the_first_line_that_is_refused_counts(self):
        self.refused(1, 'places a b c\nedge a x\nedge a a')
        self.refused(2, 'places a b c\nedge a b\nedge b a\nedge')
        self.refused(2, 'places a b c\nedge a b\n\nedge a b')

    def test_forty_places_and_more(self):
        for places, edges in large_trees():
            self.same_tree(read_tree(show_tree(Tree(places, edges))), places, edges)
        names = [one + other for one in 'abcdefg' for other in 'abcdef']
        for many, allowed in ((40, True), (41, False), (42, False)):
            text = '\n'.join([f"places {' '.join(names[:many])}", *[f'edge aa {name}' for name in names[1:many]]])
            if allowed:
                self.assertEqual(len(read_tree(text)), 40)
            else:
                self.refused(0, text)

    def test_edges_in_another_order_and_direction(self):
        tree = read_tree('places a b c d\nedge d c\nedge a b\nedge b c')
        self.assertEqual(tree.edges, (('d', 'c'), ('a', 'b'), ('b', 'c')))
        self.assertEqual(tree, Tree.in_row('a', 'b', 'c', 'd'))

    def test_texts_that_are_changed(self):
        chance, seen = random.Random(1), {True: 0, False: 0}
        for text in some_texts(seed=1, times=12, parties=False):
            for _ in range(12):
                other = changed_text(text, chance)
                wanted = slow_tree(other.split('\n'))
                if isinstance(wanted, int):
                    self.refused(wanted, other)
                else:
                    self.same_tree(read_tree(other), *wanted)
                seen[isinstance(wanted, int)] += 1
        self.assertGreater(min(seen.values()), 50, seen)


class PartyTexts(Case):

    def refused(self, row, text):
        self.refuses(NoText, {'row': row}, read_party, text)

    def check_party(self, party, places, edges, walkers, ropes):
        self.assertIs(party.__class__, Party)
        self.same_tree(party.tree, places, edges)
        self.assertIs(party.web.__class__, Web)
        self.assertEqual((party.walkers, party.web.ropes), (walkers, ropes))

    def test_there_and_back(self):
        for troop in some_troops(seed=2, times=3):
            tree, web = troop.party.tree, troop.party.web
            text = show_party(troop.party)
            self.assertIs(text.__class__, str)
            self.assertEqual(text.split('\n'), [*show_tree(tree).split('\n'), f"walkers {' '.join(web.walkers)}",
                                                *[f'rope {a} {b} {length}' for a, b, length in web.ropes]])
            self.check_party(read_party(text), tree.places, tree.edges, web.walkers, web.ropes)

    def test_by_name(self):
        self.assertEqual(show_party(party=P), show_tree(T) + '\nwalkers p q r\nrope p q 1\nrope q r 2')
        self.assertEqual(read_party(text=show_party(P)), P)
        self.check_party(read_party(PARTY), ('a', 'b', 'c', 'd'), (('a', 'b'), ('c', 'b'), ('c', 'd')), ('p', 'q', 'r'),
                         (('p', 'q', 1), ('r', 'q', 20), ('q', 'p', 0)))
        self.check_party(read_party('places walker\nwalkers places'), ('walker',), (), ('places',), ())

    def test_lengths_of_up_to_three_figures(self):
        lengths = (0, 1, 9, 10, 99, 100, 101, 990, 999)
        party = Party(T, Web(('p', 'q'), tuple(('p', 'q', length) for length in lengths)))
        self.assertEqual(read_party(show_party(party)).web.ropes, party.web.ropes)

    def test_figures(self):
        text = 'places a\nwalkers p q\nrope p q '
        for figure in ('0', '1', '9', '10', '99', '100', '999'):
            self.assertEqual(read_party(text + figure).web.ropes, (('p', 'q', int(figure)),))
        for figure in ('', '00', '01', '000', '001', '1000', '9999', '0000', '10000', '-1', '+1', '1.', '1.0', 'a', '1a', 'x1', ' 1', '1 ',
                       '1_0', '1,', '12 3', '10 0', '0x1', '1e1', '-0', '~'):
            self.refused(2, text + figure)

    def test_the_line_of_the_walkers(self):
        tree = 'places a b\nedge b a\n'
        for line, allowed in NAME_LINES:
            line = line.replace('W', 'walkers')
            if allowed:
                self.assertEqual(read_party(tree + line).walkers, tuple(line.split(' ')[1:]))
            else:
                self.refused(2, tree + line)
                self.refused(2, tree + line + '\nrope p p 1')

    def test_six_walkers_and_more(self):
        for many, allowed in ((1, True), (6, True), (7, False), (12, False)):
            text = f"{TREE}\nwalkers {' '.join('abcdefghijkl'[:many])}"
            if allowed:
                self.assertEqual(len(read_party(text).walkers), many)
            else:
                self.refused(4, text)

    def test_no_line_of_walkers(self):
        self.refused(4, TREE)
        self.refused(1, 'places a')
        self.refused(1, 'places a b')
        self.refused(3, 'places a b c d\nedge a b\nedge c d')
        self.refused(2, TREE.replace('edge c b', 'edge c x'))
        self.refused(4, TREE + '\nWalkers p')
        self.refused(4, TREE + '\n walkers p')
        self.refused(4, TREE + '\nwalker p')
        self.refused(4, TREE + '\nrope p q 1')
        self.refused(4, TREE + '\n')

    def test_places_that_are_not_connected(self):
        self.refused(1, 'places a b\nwalkers p')
        self.refused(2, 'places a b c\nedge a c\nwalkers p q\nrope p x 1')
        self.refused(3, 'places a b c d\nedge a b\nedge c d\nwalkers')
        self.refused(3, 'places a b c d\nedge a b\nedge c d\nwalkers p\n')

    def test_a_walkers_line_that_comes_too_early(self):
        self.refused(0, 'walkers p q\nplaces a')
        self.refused(0, 'walkers p\nwalkers p')
        self.refused(0, 'walkers')
        self.refused(2, 'places a b c\nedge a b\nwalkers p\nedge b c')
        self.refused(2, 'places a\nwalkers p\nwalkers p')
        self.refused(2, 'places a\nwalkers p\nplaces a')

    def test_errors_of_the_tree_come_first(self):
        self.refused(0, 'places a a\nwalkers p p')
        self.refused(1, 'places a b\nedge a x\nwalkers')
        self.refused(2, 'places a b\nedge a b\nedge b a\nwalkers P\nrope')
        self.refused(2, 'places a b\nedge a b\n\nwalkers p')
        self.refused(0, '')
        self.refused(0, '\nwalkers p')

    def test_lines_of_ropes(self):
        for line in ('rope p q', 'rope p', 'rope', 'rope p q 1 1', 'rope p p 1', 'rope p x 1', 'rope x q 1', 'rope 1 p q', 'rope  p q 1',
                     'rope p  q 1', 'rope p q  1', ' rope p q 1', 'rope p q 1 ', 'Rope p q 1', 'ropes p q 1', 'edge a b', 'p q 1', '', ' ',
                     'walkers p q', 'places a', 'rope p Q 1', 'rope p, q 1', 'rope a b 1', 'rope p q one', 'tie p q 1'):
            for at in range(5, 9):
                lines = PARTY.split('\n')
                lines[at:at] = [line]
                self.refused(at, '\n'.join(lines))
                self.refused(at, '\n'.join([*lines, '', 'rope']))

    def test_a_newline_at_the_end(self):
        self.refused(8, PARTY + '\n')
        self.refused(2, 'places a\nwalkers p\n')

    def test_several_ropes_of_the_same_two_walkers(self):
        self.assertEqual(read_party('places a\nwalkers p q\nrope p q 1\nrope q p 1\nrope p q 1').web.ropes,
                         (('p', 'q', 1), ('q', 'p', 1), ('p', 'q', 1)))

    def test_texts_that_are_changed(self):
        chance, seen = random.Random(3), {True: 0, False: 0}
        for text in some_texts(seed=3, times=16, parties=True):
            for _ in range(16):
                other = changed_text(text, chance)
                wanted = slow_party(other.split('\n'))
                if isinstance(wanted, int):
                    self.refused(wanted, other)
                else:
                    self.check_party(read_party(other), *wanted)
                seen[isinstance(wanted, int)] += 1
        self.assertGreater(min(seen.values()), 100, seen)

    def test_the_party_does_not_change(self):
        party = Party(T, W)
        first = show_party(party)
        self.assertEqual((show_party(party), party, read_party(first)), (first, P, P))


class Document(Case):

    def test_the_example_of_a_tree(self):
        self.refuses(NoText, {'row': 2}, read_tree, 'places a b c\nedge a b\nedge b a')


if __name__ == '__main__':
    unittest.main()
