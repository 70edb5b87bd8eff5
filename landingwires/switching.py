"""Switching: whether a switch always turns a lamp, in all houses of a book, or never does."""

from landingwires.errors import BadLamp, BadSwitch
from landingwires.gates import are_landings
from landingwires.houses import House
from landingwires.meeting import Look, nearest
from landingwires.places import is_number
from landingwires.positions import turned_at
from landingwires.rows import lamp_ends
from landingwires.seeing import (MOST_TRIPLES, Rising, Sinking, are_marks_of, is_evidence, is_nothing, mark_steps,
                                 mark_views, ways_seen, without_ways)
from landingwires.words import LIT, is_lit_by


def effect(book, mine, theirs):
    """What shows that the switch always turns the lamp, or never does; or a house of both sorts."""
    check_asked(book, mine, theirs)
    if not are_items(book, mine, theirs):
        return ('none',)
    seen = least_seen(book, mine)
    turned = nearest_looked(book, mine, theirs, seen, True)
    still = nearest_looked(book, mine, theirs, seen, False)
    if turned is None or still is None:
        word = 'always' if still is None else 'never'
        return word, tuple([tuple(sorted(states)) for states in seen])
    return 'both', told_triple(book, mine, theirs, turned, True), told_triple(book, mine, theirs, still, False)


def shows_effect(book, mine, theirs, value):
    """Whether any value shows what the switch does to the lamp."""
    check_asked(book, mine, theirs)
    if not are_items(book, mine, theirs):
        return value == ('none',)
    least_seen(book, mine)
    if not isinstance(value, tuple) or not 2 <= len(value) <= 3:
        return False
    if value[0] == 'both' and len(value) == 3:
        return is_turned_in(book, mine, theirs, value[1], True) and is_turned_in(book, mine, theirs, value[2], False)
    return value[0] in ('always', 'never') and len(value) == 2 and shows_all(book, mine, theirs, value)


def check_asked(book, mine, theirs):
    """Refuse what is not a pair of a kind and a switch of it, and a pair of a kind and a lamp of it."""
    if not is_pair(book, mine) or mine[1] not in book.switches(mine[0]):
        raise BadSwitch(mine)
    if not is_pair(book, theirs) or theirs[1] not in book.lamps(theirs[0]):
        raise BadLamp(theirs)


def is_pair(book, value):
    """Whether any value is a pair that has a kind of the book first."""
    return isinstance(value, tuple) and len(value) == 2 and value[0] in book


def are_items(book, mine, theirs):
    """Whether there are houses with landings of both kinds."""
    kinds = [kind for kind, starred in book.order]
    return mine[0] in kinds and theirs[0] in kinds


def least_seen(book, mine):
    """The ways to all that is seen at least: below and above, then by both positions of the switch; or TooMany."""
    below, above = [ways_seen(view) for view in mark_views(book)]
    under, over = [ways_seen(view, MOST_TRIPLES) for view in turned_views(book, mine, below, above)]
    return below, above, under, over


def turned_views(book, mine, below, above):
    """Seen from below and from above by both positions of the switch, below and above being ways to what is seen."""
    kind, switch = mine
    at = book.switches(kind).index(switch)
    rising, sinking = mark_views(book)
    step_up, step_down = mark_steps(book)
    low = turned_starts(rising, step_up, kind, at, below)
    high = turned_starts(sinking, step_down, kind, at, above)
    return Rising(book, low, step_up), Sinking(book, high, step_down)


def turned_starts(view, step, kind, at, ways):
    """What is seen behind each landing of the kind by both positions of its switch with this number, with the ways."""
    return [((*after, *step(name, turned_at(position, at), state[1:])), view.longer(way, (name, position)))
            for state, way in ways.items() for (name, position), after in view.led(state) if name == kind]


def nearest_looked(book, mine, theirs, seen, wanted):
    """A house at a meeting of which the lamp is turned, or is not, as it is wanted, in three parts; or None."""
    below, above, under, over = seen
    kind, lamp = theirs
    look = Look(book, lamp_ends(book.rows(kind), lamp), is_lit_by)
    at = book.switches(mine[0]).index(mine[1])

    def arrive(name, position, rest):
        return look.near(name, position, rest[0]), look.near(name, position, rest[-1])

    def arrive_turned(name, position, rest):
        return look.near(name, position, rest[0]), look.near(name, turned_at(position, at), rest[0])

    def is_so(near, rest):
        return (look.told(near[0], rest[0]) != look.told(near[1], rest[-1])) == wanted

    found = nearest(book, kind, under, above, arrive, is_so)
    if found is None:
        found = nearest(book, kind, below, over, arrive, is_so)
    if found is None and mine[0] == kind:
        found = nearest(book, kind, below, above, arrive_turned, is_so)
    return found


def told_triple(book, mine, theirs, found, wanted):
    """The landings, the number of a landing whose switch does so to the lamp, and that of the landing of the lamp."""
    low, landing, high = found
    landings = (*low, landing, *high)
    for number in range(len(landings)):
        triple = (landings, number, len(low))
        if is_turned_in(book, mine, theirs, triple, wanted):
            return triple
    return None


def is_turned_in(book, mine, theirs, value, wanted):
    """Whether any value is the landings of a house and two numbers there by which it is turned, or is not."""
    if not isinstance(value, tuple) or len(value) != 3 or not are_landings(book, value[0]):
        return False
    landings, first, second = value
    if not is_number(landings, first) or not is_number(landings, second):
        return False
    if landings[first][0] != mine[0] or landings[second][0] != theirs[0]:
        return False
    house = House(book, landings)
    lit = [some.word(second, theirs[1]) == LIT for some in (house, house.turned(first, mine[1]))]
    return (lit[0] != lit[1]) == wanted


def shows_all(book, mine, theirs, value):
    """Whether the second part are lists that are shut, at no meeting of which the lamp is other than the first part."""
    word, shown = value

    def is_rest(rest):
        return len(rest) == 1 and are_marks_of(book, rest[0])

    if not isinstance(shown, tuple) or len(shown) != 4:
        return False
    rising, sinking = mark_views(book)
    if not is_evidence(book, rising, shown[0], is_nothing) or not is_evidence(book, sinking, shown[1], is_nothing):
        return False
    rising, sinking = turned_views(book, mine, without_ways(shown[0]), without_ways(shown[1]))
    if not is_evidence(book, rising, shown[2], is_rest) or not is_evidence(book, sinking, shown[3], is_rest):
        return False
    seen = [without_ways(states) for states in shown]
    return nearest_looked(book, mine, theirs, seen, word == 'never') is None
