"""Texts with a slow reader: each line is matched with a pattern, each ring is found by trying all paths."""

import random
import re

from tests.kit import slow_paths
from tests.troops import any_troop
from towgrove.texts import show_party, show_tree

NAME = '[a-z]{1,6}'
FIGURE = re.compile('(0|[1-9][0-9]{0,2})')
NAMES = re.compile(f'(places|walkers)(( {NAME})+)')
EDGE = re.compile(f'edge ({NAME}) ({NAME})')
ROPE = re.compile(f'rope ({NAME}) ({NAME}) ({FIGURE.pattern})')


def slow_names(line, word, most):
    """The names of a line, or None."""
    found = NAMES.fullmatch(line)
    if not found or found[1] != word:
        return None
    names = found[2].split()
    return tuple(names) if len(names) <= most and len(set(names)) == len(names) else None


def slow_tree(lines):
    """The places and edges, or the index of the line that is refused."""
    places = slow_names(lines[0], 'places', 40)
    if places is None:
        return 0
    edges = ()
    for row, line in enumerate(lines[1:], start=1):
        found = EDGE.fullmatch(line)
        if not found or found[1] not in places or found[2] not in places:
            return row
        if found[2] in slow_paths(places, edges, found[1]):
            return row
        edges += ((found[1], found[2]),)
    if len(slow_paths(places, edges, places[0])) < len(places):
        return len(lines)
    return places, edges


def slow_party(lines):
    """The places, edges, walkers and ropes, or the index of the line that is refused."""
    rows = [row for row, line in enumerate(lines) if row and re.match('walkers($| )', line)]
    middle = rows[0] if rows else len(lines)
    tree = slow_tree(lines[:middle])
    if isinstance(tree, int):
        return tree
    if not rows:
        return middle
    walkers = slow_names(lines[middle], 'walkers', 6)
    if walkers is None:
        return middle
    ropes = ()
    for row, line in enumerate(lines[middle + 1:], start=middle + 1):
        found = ROPE.fullmatch(line)
        if not found or found[1] not in walkers or found[2] not in walkers or found[1] == found[2]:
            return row
        ropes += ((found[1], found[2], int(found[3])),)
    return (*tree, walkers, ropes)


def changed_text(text, chance):
    """The text with one line, word or sign changed."""
    kind = chance.randrange(3)
    parts = text.split('\n') if kind == 0 else re.split('([ \n])', text) if kind == 1 else list(text)
    between = '\n' if kind == 0 else ''
    at = chance.randrange(len(parts)) if parts else 0
    other = chance.randrange(len(parts)) if parts else 0
    change = chance.randrange(5)
    if change == 0:
        del parts[at:at + 1]
    elif change == 1:
        parts[at:at] = parts[other:other + 1]
    elif change == 2 and parts:
        parts[at], parts[other] = parts[other], parts[at]
    elif change == 3:
        parts[at:at + 1] = [chance.choice(('', ' ', '\n', '0', '7', '01', 'edge', 'rope', 'walkers', 'places', 'a', 'Z', ',', 'xyzxyzx'))]
    else:
        parts[at:at] = [chance.choice(('', ' ', '\n', 'edge', 'walkers a', ';', 'q'))]
    return between.join(parts)


def some_texts(seed, times, parties):
    """Texts of small and larger parties, or only of their trees."""
    chance = random.Random(seed)
    for many, walkers in ((1, 1), (2, 3), (3, 2), (4, 6), (7, 4), (12, 6), (40, 6)):
        for _ in range(times):
            party = any_troop(many, walkers, chance).party
            yield show_party(party) if parties else show_tree(party.tree)
