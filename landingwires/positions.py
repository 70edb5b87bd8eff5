"""Positions of switches: tuples of 0 and 1, and how they are written."""

from landingwires.rows import MOST_SWITCHES
from landingwires.values import is_int

NO_SWITCH = '-'
SIGNS = '01'


def is_position(value, switches):
    """Whether any value is a position of so many switches."""
    if not isinstance(value, tuple) or len(value) != switches:
        return False
    return all([is_int(turned) and 0 <= turned <= 1 for turned in value])


def all_positions(switches):
    """All positions of so many switches, ascending."""
    found = [()]
    for _ in range(switches):
        found = [(*position, turned) for position in found for turned in (0, 1)]
    return found


def turned_at(position, at):
    """The position in which the switch with this number stands the other way."""
    return (*position[:at], 1 - position[at], *position[at + 1:])


def written(position):
    """A position as it is written in texts."""
    return ''.join([str(turned) for turned in position]) if position else NO_SWITCH


def told_position(word):
    """The position that a word of a text writes, or None."""
    if word == NO_SWITCH:
        return ()
    if not 1 <= len(word) <= MOST_SWITCHES or not all([sign in SIGNS for sign in word]):
        return None
    return tuple([int(sign) for sign in word])
