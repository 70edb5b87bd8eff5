"""Comparing: whether all lamps have the same words by two books, and which links are needless."""

from landingwires.errors import Unlike
from landingwires.gates import are_landings
from landingwires.houses import House
from landingwires.pairing import is_of_one_form, least_pairs, nearest_unlike, pair_views
from landingwires.places import is_number
from landingwires.seeing import are_marks_of, is_evidence, without_ways
from landingwires.words import words_of

LINK = '  link '


def alike(one, other):
    """What shows that all lamps have the same words by both books, or a shortest house in which one has not."""
    check_form(one, other)
    below, above = least_pairs(one, other)
    found = nearest_unlike(one, other, below, above, words_of)
    if found is None:
        return 'alike', tuple(sorted(below)), tuple(sorted(above))
    low, landing, high = found
    landings = (*low, landing, *high)
    lamps = [lamp for lamp in one.lamps(landing[0]) if is_unlike_in(one, other, landings, len(low), lamp)]
    return 'unlike', landings, len(low), lamps[0]


def shows_alike(one, other, value):
    """Whether any value shows that the books are alike, or that they are not."""
    check_form(one, other)
    below, above = least_pairs(one, other)
    if not isinstance(value, tuple) or not 3 <= len(value) <= 4:
        return False
    if value[0] == 'alike' and len(value) == 3:
        return shows_same(one, other, value[1], value[2])
    if value[0] != 'unlike' or len(value) != 4 or not is_unlike_in(one, other, value[1], value[2], value[3]):
        return False
    low, _, high = nearest_unlike(one, other, below, above, words_of)
    return len(value[1]) == len(low) + 1 + len(high)


def needless(book):
    """The numbers of the lines link each of which can be left out by itself, so that the books are alike."""
    links = [number for number in range(1, len(book) + 1) if book[number].startswith(LINK)]
    return tuple([number for number in links if alike(book, book.put(number, ''))[0] == 'alike'])


def check_form(one, other):
    """Refuse any value that is no book of one form with the first one."""
    if not is_of_one_form(one, other):
        raise Unlike(other)


def shows_same(one, other, below, above):
    """Whether any two values are shut, and at none of their meetings a lamp has unlike words."""

    def is_rest(rest):
        return len(rest) == 1 and are_marks_of(other, rest[0])

    rising, sinking = pair_views(one, other)
    if not is_evidence(one, rising, below, is_rest) or not is_evidence(one, sinking, above, is_rest):
        return False
    return nearest_unlike(one, other, without_ways(below), without_ways(above), words_of) is None


def is_unlike_in(one, other, landings, number, lamp):
    """Whether any values are landings of a house, the number of one and a lamp there that has unlike words."""
    if not are_landings(one, landings) or not is_number(landings, number):
        return False
    if lamp not in one.lamps(landings[number][0]):
        return False
    return House(one, landings).word(number, lamp) != House(other, landings).word(number, lamp)
