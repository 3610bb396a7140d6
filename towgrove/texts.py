"""Texts of trees, parties and rows."""

from towgrove.errors import NoText
from towgrove.parties import Party
from towgrove.trees import MOST_PLACES, Tree
from towgrove.webs import MOST_WALKERS, Web

LONGEST_FIGURE = 3


def lines_of_tree(tree):
    return [" ".join(["places", *tree.places]), *[f"edge {one} {other}" for one, other in tree.edges]]


def show_tree(tree):
    """The text of a tree."""
    return "\n".join(lines_of_tree(tree))


def names_behind(word, line, most):
    """The names of a line of exactly this word and 1 to so many different names, or None for another line."""
    first, *names = line.split(" ")
    if first != word or not 1 <= len(names) <= most:
        return None
    for at, name in enumerate(names):
        if name in names[:at] or not Tree.is_name(name):
            return None
    return tuple(names)


def edge_of(line, part):
    """The ends of a line of exactly `edge` and two places of different parts, or None for another line."""
    words = line.split(" ")
    if len(words) != 3 or words[0] != "edge":
        return None
    one, other = words[1:]
    if one not in part or other not in part or part[one] == part[other]:
        return None
    return one, other


def tree_of_lines(lines):
    """The tree of its lines; raises NoText."""
    places = names_behind("places", lines[0], MOST_PLACES)
    if places is None:
        raise NoText(0)
    # Places with the same number are connected by the edges so far.
    part = {place: at for at, place in enumerate(places)}
    edges = []
    for row, line in enumerate(lines[1:], start=1):
        edge = edge_of(line, part)
        if edge is None:
            raise NoText(row)
        edges.append(edge)
        kept, lost = part[edge[0]], part[edge[1]]
        part = {place: kept if part[place] == lost else part[place] for place in places}
    # None of the edges closes a ring, so they connect all places only if there is one for each further place.
    if len(edges) != len(places) - 1:
        raise NoText(len(lines))
    return Tree(places, tuple(edges))


def read_tree(text):
    """The tree with this text."""
    return tree_of_lines(text.split("\n"))


def show_party(party):
    """The text of a party."""
    walkers = " ".join(["walkers", *party.walkers])
    ropes = [f"rope {one} {other} {length}" for one, other, length in party.web.ropes]
    return "\n".join([*lines_of_tree(party.tree), walkers, *ropes])


def row_of_walkers(lines):
    """The index of the line with the walkers, or the number of lines if there is none."""
    for row, line in enumerate(lines):
        if row > 0 and line.split(" ")[0] == "walkers":
            return row
    return len(lines)


def is_figure(word):
    """Whether a word is the figure of a number: one to three digits, no zero before another one."""
    if len(word) > LONGEST_FIGURE or not word.isascii() or not word.isdigit():
        return False
    return word == "0" or word[0] != "0"


def rope_of(line, walkers):
    """The rope of a line of exactly `rope`, two different walkers and a figure, or None for another line."""
    words = line.split(" ")
    if len(words) != 4 or words[0] != "rope":
        return None
    one, other, figure = words[1:]
    if one not in walkers or other not in walkers or one == other or not is_figure(figure):
        return None
    return one, other, int(figure)


def read_party(text):
    """The party with this text."""
    lines = text.split("\n")
    middle = row_of_walkers(lines)
    tree = tree_of_lines(lines[:middle])
    if middle == len(lines):
        raise NoText(middle)
    walkers = names_behind("walkers", lines[middle], MOST_WALKERS)
    if walkers is None:
        raise NoText(middle)
    ropes = []
    for row, line in enumerate(lines[middle + 1:], start=middle + 1):
        rope = rope_of(line, walkers)
        if rope is None:
            raise NoText(row)
        ropes.append(rope)
    return Party(tree, Web(walkers, tuple(ropes)))


def show_row(row):
    """The text of a row."""
    return ", ".join([f"{walker} {place}" for walker, place in row])


def read_row(party, text):
    """The row of pulls of a party with this text."""
    if text == "":
        return ()
    row = [tuple(words.split(" ")) for words in text.split(", ")]
    for at, pull in enumerate(row):
        if not party.is_pull(pull):
            raise NoText(at)
    return tuple(row)
