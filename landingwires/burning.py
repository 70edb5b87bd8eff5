"""Burning shown: rows of neighbours and shores that tell why a lamp has its word."""

from landingwires.places import is_place, neighbours, reached
from landingwires.rows import lamp_ends
from landingwires.values import is_ascending


def burns(house, number, lamp):
    """The word of a lamp, with rows of neighbours and a shore that show it."""
    word = house.word(number, lamp)
    near = neighbours(house.book, house.landings)
    if word == 'short':
        return word, row_to(near, (0, 'live'), 'back')
    live = shore_around(near, (0, 'live'))
    if word == 'dark':
        return word, live
    one, other = end_places(house, number, lamp)
    if one not in live:
        one, other = other, one
    way = row_to(near, one, 'live')
    if word == 'lit':
        return word, way, row_to(near, other, 'back'), live
    return word, way, shore_around(near, (0, 'back'))


def shows_burns(house, number, lamp, value):
    """Whether any value shows the word of this lamp."""
    house.word(number, lamp)
    if not isinstance(value, tuple) or len(value) < 2:
        return False
    near = neighbours(house.book, house.landings)
    ends = end_places(house, number, lamp)
    if value[0] == 'short' and len(value) == 2:
        return is_row(house, near, value[1]) and value[1][0][1] == 'live' and value[1][-1][1] == 'back'
    if value[0] == 'dark' and len(value) == 2:
        return is_shore(house, near, value[1], 'live', 'back', ends)
    if value[0] == 'warm' and len(value) == 3:
        way, shore = value[1:]
        return leads_from(house, near, way, ends, 'live') and is_shore(house, near, shore, 'back', 'live', ends)
    return value[0] == 'lit' and len(value) == 4 and shows_lit(house, near, ends, value)


def shows_lit(house, near, ends, value):
    """Whether the parts behind the word show that a lamp with these ends is lit."""
    way, other, shore = value[1:]
    if not leads_from(house, near, way, ends, 'live') or not leads_from(house, near, other, ends, 'back'):
        return False
    return way[0] != other[0] and is_shore(house, near, shore, 'live', 'back', ())


def end_places(house, number, lamp):
    """The places of the two ends of a lamp."""
    points = lamp_ends(house.book.rows(house[number][0]), lamp)
    return [(number, point) for point in points]


def row_to(near, start, end):
    """A shortest row of neighbours from a place to a live, or to a back, that hangs together with it."""
    before = {start: start}
    waiting = [start]
    while waiting[0][1] != end:
        place = waiting.pop(0)
        for other in near.get(place, []):
            if other not in before:
                before[other] = place
                waiting.append(other)
    row = [waiting[0]]
    while row[-1] != start:
        row.append(before[row[-1]])
    return tuple(row[::-1])


def shore_around(near, start):
    """All places that hang together with this one, ascending."""
    return tuple(sorted(reached(near, start)))


def are_places(house, value):
    """Whether any value is a tuple of places of the house."""
    return isinstance(value, tuple) and all([is_place(house.book, house.landings, place) for place in value])


def is_row(house, near, value):
    """Whether any value is a row of neighbours."""
    if not are_places(house, value) or not value:
        return False
    return all([other in near.get(one, []) for one, other in zip(value, value[1:])])


def leads_from(house, near, value, ends, end):
    """Whether any value is a row of neighbours from one of these places to a live, or to a back."""
    return is_row(house, near, value) and value[0] in ends and value[-1][1] == end


def is_shore(house, near, value, one, other, ends):
    """Whether any value is a shore that has a live but no back, or the other way about, and none of these places."""
    if not are_places(house, value) or not is_ascending(value):
        return False
    held = {place: True for place in value}
    if not all([beside in held for place in value for beside in near.get(place, [])]):
        return False
    points = [point for number, point in value]
    return one in points and other not in points and not any([end in held for end in ends])
