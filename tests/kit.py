"""What several tests need: values, names, trees, and slow ways to find what the program must say."""

import itertools
import random
import unittest

from towgrove.trees import Tree


def nested(depth, item):
    value = item
    for _ in range(depth):
        value = (value,)
    return value


# Values of each kind that the document calls "any value".
ANY_VALUES = (
    True, False, None, 0, 1, -1, 2, 10 ** 30, -10 ** 5000,
    '', 'a', 'b', 'A', 'z', 'abcdef', 'abcdefg', 'a b', ' a', 'a ', 'a\n', '\n', 'a1', '1', '-', '~', 'x' * 3000,
    (), ('a',), ('a', 'b'), ('a', 'b', 'c'), (('a', 'b'),), (None,), ((),), (True, False), (1, 'a'), ('a', 1),
    nested(8, 'a'), nested(7, ('a', 'b')), nested(8, True),
)


class Case(unittest.TestCase):

    def refuses(self, kind, kept, work, /, *values, **named):
        """Check that a call raises an error of exactly this class with these attributes."""
        try:
            work(*values, **named)
        except Exception as error:
            self.assertIs(error.__class__, kind, (values, named))
            self.check_kept(error, kept)
            return
        self.fail(f'{kind.__name__} was not raised for {values!r} {named!r}')

    def check_kept(self, error, kept):
        for name, value in kept.items():
            found = getattr(error, name)
            self.assertEqual((found.__class__, found), (value.__class__, value), name)

    def same_tree(self, tree, places, edges):
        """Check that a tree has just these places and edges, in this order and direction."""
        self.assertIs(tree.__class__, Tree)
        self.assertIs(tree.places.__class__, tuple)
        self.assertIs(tree.edges.__class__, tuple)
        self.assertEqual(tree.places, tuple(places))
        self.assertEqual(tree.edges, tuple(edges))
        self.assertEqual(len(tree), len(places))


def first_item(iterator):
    for item in iterator:
        return item


def mixed_names(many, seed=0):
    """Different names, of each length, whose order is not the alphabetical one."""
    letters = 'qzamkbxycdtw'
    chance = random.Random(seed)
    names = []
    while len(names) < many:
        name = ''.join(chance.choice(letters) for _ in range(chance.randint(1, 6)))
        if name not in names:
            names.append(name)
    return tuple(names)


def edges_of_code(code, places):
    """The edges of the tree on these places that has this Pruefer code (indexes of places)."""
    ends = [1 + code.count(at) for at in range(len(places))]
    edges = []
    for at in code:
        leaf = ends.index(1)
        edges.append((places[leaf], places[at]))
        ends[leaf] -= 1
        ends[at] -= 1
    last = [at for at, many in enumerate(ends) if many == 1]
    if len(last) == 2:
        edges.append((places[last[0]], places[last[1]]))
    return edges


def mixed_edges(edges, chance):
    """The same edges in another order, some of them in the other direction."""
    turned = [edge if chance.random() < 0.5 else edge[::-1] for edge in edges]
    chance.shuffle(turned)
    return tuple(turned)


def every_tree(many):
    """Each tree on this number of places, as a pair of places and edges."""
    places = mixed_names(many, seed=many)
    chance = random.Random(many)
    for code in itertools.product(range(many), repeat=max(many - 2, 0)):
        edges = edges_of_code(code, places) if many > 1 else []
        yield places, mixed_edges(edges, chance)


def large_trees():
    """Trees with up to 40 places: rows, stars and trees of any shape, as pairs of places and edges."""
    for many in (6, 7, 11, 23, 39, 40):
        chance = random.Random(many)
        places = mixed_names(many, seed=many)
        yield places, mixed_edges(zip(places, places[1:]), chance)
        centre = places[many // 2]
        yield places, mixed_edges([(centre, place) for place in places if place != centre], chance)
        for _ in range(3):
            code = [chance.randrange(many) for _ in range(many - 2)]
            yield places, mixed_edges(edges_of_code(code, places), chance)


def some_trees():
    for many in range(1, 6):
        yield from every_tree(many)
    yield from large_trees()


def slow_neighbours(places, edges, place):
    return tuple(other for other in places if (place, other) in edges or (other, place) in edges)


def slow_paths(places, edges, start):
    """For each place, the path to it from the start: all paths without repeated places are tried."""
    paths = {}
    beside = {place: [] for place in places}
    for a, b in edges:
        beside[a].append(b)
        beside[b].append(a)

    def go(path):
        paths[path[-1]] = path
        for other in beside[path[-1]]:
            if other not in path:
                go((*path, other))

    go((start,))
    return paths
