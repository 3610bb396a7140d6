"""The desk: a camp that is asked and told with texts."""

from towgrove.camps import Camp
from towgrove.errors import NoCommand
from towgrove.texts import read_party, read_row
from towgrove.trees import Tree


def answer_pull(camp, walker, place):
    moved = camp.pull(walker, place)
    return " ".join(moved) if moved else "nobody"


def answer_reach(camp, a, b):
    return str(camp.party.web.reach(a, b))


def answer_undo(camp):
    return "undone" if camp.undo() else "nothing"


def answer_show(camp):
    return " ".join(camp.standing)


def answer_row(camp, row):
    return f"{camp.several(row)} done"


def answer_suppose(camp, row):
    return " ".join(camp.supposed(row))


def answer_haul(camp, row):
    groves = camp.party.haul(row).groves
    parts = [" ".join([f"{walker}:", *groves[at].places]) for at, walker in enumerate(camp.party.walkers)]
    return " ; ".join(parts)


def answer_rest(camp, row):
    return "rests" if camp.standing in camp.party.haul(row) else "moves"


BY_NAMES = {"pull": answer_pull, "reach": answer_reach}
ALONE = {"undo": answer_undo, "show": answer_show}
BY_ROW = {"row": answer_row, "suppose": answer_suppose, "haul": answer_haul, "rest": answer_rest}


def are_two_names(words):
    return len(words) == 2 and all([Tree.is_name(word) for word in words])


def is_command(command):
    """Whether a string has the form of a command."""
    words = command.split(" ")
    if "" in words or "\n" in command:
        return False
    word, *others = words
    if word in BY_ROW:
        pulls = " ".join(others).split(", ")
        return all([are_two_names(pull.split(" ")) for pull in pulls])
    if word in BY_NAMES:
        return are_two_names(others)
    if word in ALONE:
        return not others
    return word == "party" and len(others) > 0


class Desk:
    """A camp, or none at first, that commands speak to."""

    def __init__(self):
        self._camp = None

    def say(self, command):
        """Do what a command says; the answer to it."""
        if not is_command(command):
            raise NoCommand()
        word, _, rest = command.partition(" ")
        if word == "party":
            return self._begin(rest.replace(" ; ", "\n"))
        camp = self._camp
        if camp is None:
            raise NoCommand()
        if word in BY_ROW:
            by_row = BY_ROW[word]
            return by_row(camp, read_row(camp.party, rest))
        if word in BY_NAMES:
            by_names = BY_NAMES[word]
            one, other = rest.split(" ")
            return by_names(camp, one, other)
        alone = ALONE[word]
        return alone(camp)

    def _begin(self, text):
        party = read_party(text)
        self._camp = Camp(party, party.gathered(party.tree.places[0]))
        return f"{len(party.walkers)} walkers"

    def __len__(self):
        if self._camp is None:
            return 0
        return len(self._camp)
