"""The errors of the package."""


class TowError(ValueError):
    """The base class of the errors about what was built or how it was used."""


class BuildError(TowError):
    """Something cannot be built from the parts that were given."""


class UseError(TowError):
    """Something that was built was used in a way that it does not allow."""


class NoTree(BuildError):
    """The places and edges are not those of a tree."""

    def __init__(self, word, at):
        self.word = word
        self.at = at


class NoGrove(BuildError):
    """The places are not a grove: the path of these two leaves them."""

    def __init__(self, one, other):
        self.one = one
        self.other = other


class NoWeb(BuildError):
    """The walkers and ropes are not those of a web."""

    def __init__(self, word, at):
        self.word = word
        self.at = at


class NoText(BuildError):
    """The text is not one that can be read; row tells where."""

    def __init__(self, row):
        self.row = row


class NoStanding(UseError):
    """The value is not a standing, or not a legal one."""

    def __init__(self, word, at):
        self.word = word
        self.at = at


class NoMatch(UseError):
    """Two things do not go together; word tells in which respect."""

    def __init__(self, word):
        self.word = word


class Broken(UseError):
    """An item of a row or a book is refused; at is its index."""

    def __init__(self, at):
        self.at = at


class Unexplained(UseError):
    """No web explains the sights."""


class NoCommand(UseError):
    """The desk does not know the command, or has no camp for it."""


class NoPlace(KeyError):
    """The tree has no such place."""

    def __init__(self, place):
        self.place = place


class NoWalker(KeyError):
    """The web has no such walker."""

    def __init__(self, walker):
        self.walker = walker
