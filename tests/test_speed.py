"""Measures what takes long; the times are printed, and no test fails on a time."""

import time
import unittest

from towgrove.trees import Tree


def names(many, first):
    return tuple(first + one + other for one in 'abcdefg' for other in 'abcdefg')[:many]


def timed(text, calls, work):
    start = time.perf_counter()
    found = [work() for _ in range(calls)]
    print(f'\n{text}: {time.perf_counter() - start:.3f} s', end='', flush=True)
    return found


class Speed(unittest.TestCase):

    def test_trees_of_forty_places_in_a_row(self):
        places = names(40, 'p')
        found = timed('Tree.in_row of 40 names, 1,000 times', 1000, lambda: Tree.in_row(*places))
        self.assertEqual(found[-1].edges, tuple(zip(places, places[1:])))

    def test_cuts_at_each_edge(self):
        tree = Tree.in_row(*names(40, 'p'))
        found = timed('cut at each of 39 edges, 25 times', 25, lambda: [tree.cut(a, b) for a, b in tree.edges])
        self.assertEqual([[len(part) for part in parts] for parts in found[-1]], [[at, 40 - at] for at in range(1, 40)])

    def test_grafts_at_all_pairs_of_places(self):
        one, other = Tree.in_row(*names(20, 'p')), Tree.in_row(*names(20, 'q'))
        found = timed('grafted at all 400 pairs of places', 1, lambda: [
            one.grafted(other, at, to) for at in one.places for to in other.places])
        self.assertEqual([tree.edges[-1] for tree in found[0]], [(at, to) for at in one.places for to in other.places])


if __name__ == '__main__':
    unittest.main()
