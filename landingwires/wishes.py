"""Wishes: what is to hold in all houses, whichever book it is asked of."""

from landingwires.errors import BadRule, BadWishes
from landingwires.keeping import keeps
from landingwires.reaching import can
from landingwires.rows import ABOVE, BELOW, kind_points, wire_points
from landingwires.rules import Rule
from landingwires.standings import MOST_WIRES
from landingwires.switching import effect
from landingwires.values import ENDS, is_name
from landingwires.words import WORDS

MOST_WISHES = 3


def check_wishes(value):
    """Refuse any value that is no tuple of one to three wishes."""
    if not isinstance(value, tuple) or not 1 <= len(value) <= MOST_WISHES or not all([is_wish(wish) for wish in value]):
        raise BadWishes(value)


def is_wish(value):
    """Whether any value is a wish."""
    if not isinstance(value, tuple) or not 2 <= len(value) <= 4:
        return False
    if value[0] == 'never' and len(value) == 2:
        return is_wished_what(value[1])
    if value[0] == 'always' and len(value) == 3:
        return are_names(value[1]) and are_names(value[2])
    return value[0] == 'keeps' and len(value) == 4 and are_names(value[1:3]) and is_rule_text(value[3])


def are_names(value):
    """Whether any value is a pair of names."""
    return isinstance(value, tuple) and len(value) == 2 and all([is_name(name) for name in value])


def is_wished_what(value):
    """Whether any value tells what may be, of kinds, lamps and points with any names."""
    if not isinstance(value, tuple) or len(value) != 4:
        return value == ('short',)
    if value[0] == 'lamp':
        return are_names(value[1:3]) and value[3] in WORDS
    kind, one, other = value[1:]
    return value[0] == 'joined' and is_name(kind) and is_point(one) and is_point(other) and one != other


def is_point(value):
    """Whether any value can be a point in some book."""
    return is_name(value) or value in (*wire_points(BELOW, MOST_WIRES), *wire_points(ABOVE, MOST_WIRES), *ENDS)


def is_rule_text(value):
    """Whether any value is the text of a rule."""
    try:
        Rule(value)
    except BadRule:
        return False
    return True


def holds(book, wish):
    """Whether a wish holds by a book; or TooMany."""
    if wish[0] == 'always':
        return holds_always(book, wish[1], wish[2])
    if wish[0] == 'keeps':
        kind, lamp, text = wish[1:]
        return has_lamp(book, kind, lamp) and keeps(book, kind, lamp, Rule(text))[0] == 'keeps'
    return holds_never(book, wish[1])


def has_lamp(book, kind, lamp):
    """Whether a book has a kind with this name that has a lamp with this name."""
    return kind in book and lamp in book.lamps(kind)


def holds_always(book, mine, theirs):
    """Whether the switch always turns the lamp."""
    if mine[0] not in book or mine[1] not in book.switches(mine[0]) or not has_lamp(book, theirs[0], theirs[1]):
        return False
    return effect(book, mine, theirs)[0] == 'always'


def holds_never(book, what):
    """Whether it never is."""
    if what[0] == 'joined':
        return holds_apart(book, what)
    if what[0] == 'lamp' and not has_lamp(book, what[1], what[2]):
        return False
    return can(book, what)[0] == 'never'


def holds_apart(book, what):
    """Whether two points never hang together; inner points that the kind lacks hang together with nothing."""
    if what[1] not in book:
        return False
    known = kind_points(book.rows(what[1]), book.wires)
    lacking = [point for point in what[2:] if point not in known]
    if lacking:
        return all([is_name(point) for point in lacking])
    return can(book, what)[0] == 'never'
