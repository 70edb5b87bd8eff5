"""Reaching: what can come in some house of a book, and what never can."""

from landingwires.errors import BadWhat
from landingwires.gates import are_landings
from landingwires.houses import House
from landingwires.meeting import Look, nearest
from landingwires.places import is_number
from landingwires.rows import kind_points, lamp_ends
from landingwires.seeing import is_evidence, is_nothing, mark_views, ways_seen, without_ways
from landingwires.words import WORDS, word_of


def standings(book):
    """The least tuples of what is seen from below and from above that are shut."""
    rising, sinking = mark_views(book)
    return tuple(sorted(ways_seen(rising))), tuple(sorted(ways_seen(sinking)))


def can(book, what):
    """A shortest house in which it is so, or what shows that it never is."""
    check_what(book, what)
    below, above = [ways_seen(view) for view in mark_views(book)]
    found = nearest_so(book, what, below, above)
    if found is None:
        return 'never', tuple(sorted(below)), tuple(sorted(above))
    low, landing, high = found
    number = 0 if what[0] == 'short' else len(low)
    return 'can', (*low, landing, *high), number


def shows_can(book, what, value):
    """Whether any value shows that it can be so, or that it never is."""
    check_what(book, what)
    if not isinstance(value, tuple) or len(value) != 3:
        return False
    if value[0] == 'can':
        return is_so_in(book, what, value[1], value[2]) and len(value[1]) == len(can(book, what)[1])
    return value[0] == 'never' and shows_never(book, what, value[1], value[2])


def shows_never(book, what, below, above):
    """Whether any two values are shut, as seen from below and from above, and at none of their meetings it is so."""
    rising, sinking = mark_views(book)
    if not is_evidence(book, rising, below, is_nothing) or not is_evidence(book, sinking, above, is_nothing):
        return False
    return nearest_so(book, what, without_ways(below), without_ways(above)) is None


def nearest_so(book, what, below, above):
    """The shortest house at a meeting of which it is so, in three parts, or None."""

    def is_so_by(numbers):
        return word_of(numbers) == what[3] if what[0] == 'lamp' else numbers[-2] == numbers[-1]

    look = Look(book, what_points(book, what), is_so_by)

    def arrive(kind, position, rest):
        return look.near(kind, position, rest[0])

    def is_so(near, rest):
        return look.told(near, rest[0])

    return nearest(book, None if what[0] == 'short' else what[1], below, above, arrive, is_so)


def what_points(book, what):
    """The points of the landing of which is asked."""
    if what[0] == 'short':
        return ()
    return what[2:] if what[0] == 'joined' else lamp_ends(book.rows(what[1]), what[2])


def is_so_in(book, what, landings, number):
    """Whether any two values are landings of a house of the book and the number of one of which it is so."""
    if not are_landings(book, landings) or not is_number(landings, number):
        return False
    house = House(book, landings)
    if what[0] == 'short':
        return number == 0 and house.is_short
    if landings[number][0] != what[1]:
        return False
    if what[0] == 'lamp':
        return house.word(number, what[2]) == what[3]
    return house.joined((number, what[2]), (number, what[3]))


def check_what(book, value):
    """Refuse any value that does not tell what may be."""
    if not is_what(book, value):
        raise BadWhat(value)


def is_what(book, value):
    """Whether any value tells what may be."""
    if not isinstance(value, tuple) or len(value) != 4 or value[1] not in book:
        return value == ('short',)
    if value[0] == 'lamp':
        return value[2] in book.lamps(value[1]) and value[3] in WORDS
    points = kind_points(book.rows(value[1]), book.wires)
    return value[0] == 'joined' and value[2] in points and value[3] in points and value[2] != value[3]
