"""Landings, the pairs (kind, position) of a house from the lowest one up: their lamps, and their switches turned."""

from landingwires.errors import NoLamp, NoLanding, NoSwitch
from landingwires.places import is_number
from landingwires.positions import turned_at
from landingwires.rows import lamp_ends
from landingwires.words import LIT, word_of


def check_number(landings, number):
    """Refuse any value that is not the number of one of the landings."""
    if not is_number(landings, number):
        raise NoLanding(number)


def all_lamps(book, landings):
    """(number, lamp) of all lamps, by landings, then in the sequence of the text."""
    return [(number, lamp) for number, (kind, position) in enumerate(landings) for lamp in book.lamps(kind)]


def lamp_word(book, landings, groups, number, lamp):
    """The word of a lamp; groups tell for each place a number, the same one for all that hang together."""
    check_number(landings, number)
    kind = landings[number][0]
    if lamp not in book.lamps(kind):
        raise NoLamp(lamp)
    points = ('live', 'back', *lamp_ends(book.rows(kind), lamp))
    return word_of([groups[(number, point)] for point in points])


def lit_lamps(book, landings, groups):
    """(number, lamp) of all lamps that are lit."""
    lamps = all_lamps(book, landings)
    return tuple([lamp for lamp in lamps if lamp_word(book, landings, groups, lamp[0], lamp[1]) == LIT])


def with_position(landings, number, position):
    """The landings, the one with this number standing in this position."""
    return (*landings[:number], (landings[number][0], position), *landings[number + 1:])


def with_turned(book, landings, number, switch):
    """The landings, this switch being turned."""
    check_number(landings, number)
    kind, position = landings[number]
    switches = book.switches(kind)
    if switch not in switches:
        raise NoSwitch(switch)
    return with_position(landings, number, turned_at(position, switches.index(switch)))
