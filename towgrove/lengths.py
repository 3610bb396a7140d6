"""Lengths of ropes and of reaches."""


class Length:
    """A length: a number, or free, which is greater than every number."""

    def __init__(self, number):
        self._number = number
        # A free length has no number to compare, so its rank puts it after all that have one.
        self._rank = (1, 0) if number is None else (0, number)

    @classmethod
    def free(cls):
        """The free length."""
        return cls(None)

    @staticmethod
    def least(first, *others):
        """The smallest of one or more lengths."""
        smallest = first
        for other in others:
            if other < smallest:
                smallest = other
        return smallest

    @property
    def number(self):
        """The integer, or None for the free length."""
        return self._number

    @property
    def is_free(self):
        """Whether this is the free length."""
        return self._number is None

    def __add__(self, other):
        if isinstance(other, Length):
            more = other._number
        elif isinstance(other, int) and not isinstance(other, bool):
            more = other
        else:
            return NotImplemented
        if self._number is None or more is None:
            return Length(None)
        return Length(self._number + more)

    def __radd__(self, other):
        return self + other

    def __lt__(self, other):
        if not isinstance(other, Length):
            return NotImplemented
        return self._rank < other._rank

    def __le__(self, other):
        if not isinstance(other, Length):
            return NotImplemented
        return self._rank <= other._rank

    def __gt__(self, other):
        if not isinstance(other, Length):
            return NotImplemented
        return self._rank > other._rank

    def __ge__(self, other):
        if not isinstance(other, Length):
            return NotImplemented
        return self._rank >= other._rank

    def __eq__(self, other):
        return isinstance(other, Length) and self._rank == other._rank

    def __str__(self):
        if self._number is None:
            return "free"
        return str(self._number)

    def __repr__(self):
        if self._number is None:
            return "Length.free()"
        return f"Length({self._number})"
