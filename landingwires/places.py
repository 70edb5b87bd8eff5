"""Places of landings, pairs (number, point), and which of them are neighbours or hang together."""

from landingwires.rows import ABOVE, BELOW, joins, kind_points, wire_points
from landingwires.values import ENDS, is_int


def is_number(landings, value):
    """Whether any value is the number of one of the landings."""
    return is_int(value) and 0 <= value < len(landings)


def is_place(book, landings, value):
    """Whether any value is a place of these landings."""
    if not isinstance(value, tuple) or len(value) != 2 or not is_number(landings, value[0]):
        return False
    return value[1] in landing_points(book, landings[value[0]])


def landing_points(book, landing):
    """All points of a landing."""
    return kind_points(book.rows(landing[0]), book.wires)


def all_places(book, landings):
    """All places of these landings."""
    return [(number, point) for number, landing in enumerate(landings) for point in landing_points(book, landing)]


def neighbours(book, landings):
    """For each place of these landings that has neighbours the list of them."""
    near = {}
    for one, other in neighbour_pairs(book, landings):
        near.setdefault(one, []).append(other)
        near.setdefault(other, []).append(one)
    return near


def neighbour_pairs(book, landings):
    """All pairs of neighbours, each in one sequence."""
    pairs = []
    for number, (kind, position) in enumerate(landings):
        pairs.extend([((number, one), (number, other)) for one, other in joins(book.rows(kind), position)])
        pairs.extend([((low, end), (number, end)) for low in range(number) for end in ENDS])
    for number in range(1, len(landings)):
        pairs.extend([((number - 1, one), (number, other)) for one, other in wire_pairs(book.wires)])
    return pairs


def wire_pairs(wires):
    """For each wire its point at the landing below it and its point at the one above it."""
    return list(zip(wire_points(ABOVE, wires), wire_points(BELOW, wires)))


def reached(near, start):
    """All places that hang together with this one, near telling the neighbours of each."""
    found = {}
    waiting = [start]
    while waiting:
        place = waiting.pop()
        if place not in found:
            found[place] = True
            waiting.extend(near.get(place, []))
    return list(found)


def place_groups(book, landings):
    """A number for each place of these landings, the same one for all that hang together."""
    near = neighbours(book, landings)
    groups = {}
    for number, start in enumerate(all_places(book, landings)):
        if start not in groups:
            for place in reached(near, start):
                groups[place] = number
    return groups
