"""Standings: what hangs together of the wires between two landings, live and back."""

from landingwires.errors import BadMarks, BadWires, OtherWires
from landingwires.values import is_int

LEAST_WIRES = 1
MOST_WIRES = 4


class Standing:
    """Which of the wires, live and back hang together; it never changes."""

    def __init__(self, marks):
        if not are_marks(marks):
            raise BadMarks(marks)
        self._marks = marks

    @property
    def marks(self):
        """For each thing the least number of one that hangs together with it."""
        return self._marks

    @property
    def wires(self):
        """How many wires there are."""
        return len(self._marks) - 2

    @property
    def is_short(self):
        """Whether live and back hang together."""
        return self._marks[-2] == self._marks[-1]

    @staticmethod
    def bare(wires):
        """The standing with so many wires in which nothing hangs together."""
        if not is_int(wires) or not LEAST_WIRES <= wires <= MOST_WIRES:
            raise BadWires(wires)
        return Standing(tuple(range(wires + 2)))

    def within(self, other):
        """Whether all that hangs together here does in the other one."""
        check_wires(self, other)
        return all([(at, mark) in other for at, mark in enumerate(self._marks)])

    def __contains__(self, value):
        if not isinstance(value, tuple) or len(value) != 2:
            return False
        if not all([is_int(thing) and 0 <= thing < len(self._marks) for thing in value]):
            return False
        return self._marks[value[0]] == self._marks[value[1]]

    def __or__(self, other):
        check_wires(self, other)
        together = self._marks
        for at, mark in enumerate(other.marks):
            together = merged(together, at, mark)
        return Standing(together)

    def __and__(self, other):
        check_wires(self, other)
        pairs = list(zip(self._marks, other.marks))
        return Standing(tuple([pairs.index(pair) for pair in pairs]))

    def __eq__(self, other):
        return isinstance(other, Standing) and self._marks == other._marks


def are_marks(value):
    """Whether any value is the marks of a standing."""
    if not isinstance(value, tuple) or not LEAST_WIRES + 2 <= len(value) <= MOST_WIRES + 2:
        return False
    return all([is_int(mark) and 0 <= mark <= at and value[mark] == mark for at, mark in enumerate(value)])


def check_wires(one, other):
    """Refuse a standing with another number of wires."""
    if one.wires != other.wires:
        raise OtherWires(other)


def merged(marks, one, other):
    """The marks when the things with these two numbers hang together, too."""
    low = min(marks[one], marks[other])
    high = max(marks[one], marks[other])
    return tuple([low if mark == high else mark for mark in marks])
