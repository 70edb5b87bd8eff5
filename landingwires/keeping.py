"""Keeping: whether a lamp is lit in all houses of a book just as a rule says."""

from landingwires.errors import NoLamp
from landingwires.gates import are_landings
from landingwires.houses import House
from landingwires.meeting import Look, nearest
from landingwires.places import is_number
from landingwires.rows import lamp_ends
from landingwires.seeing import MOST_TRIPLES, end_views, is_evidence, mark_steps, ways_seen, without_ways
from landingwires.standings import Standing
from landingwires.values import is_ascending
from landingwires.words import LIT, is_lit_by


def keeps(book, kind, lamp, rule):
    """What shows that the lamp is lit just as the rule says, or a shortest house in which it is not."""
    below, above = least_triples(book, kind, lamp, rule)
    found = nearest_break(book, kind, lamp, rule, below, above)
    if found is None:
        return 'keeps', tuple(sorted(below)), tuple(sorted(above))
    low, landing, high = found
    return 'breaks', (*low, landing, *high), len(low)


def shows_keeps(book, kind, lamp, rule, value):
    """Whether any value shows that the lamp is lit just as the rule says, or that it is not."""
    below, above = least_triples(book, kind, lamp, rule)
    if not isinstance(value, tuple) or len(value) != 3:
        return False
    if value[0] == 'keeps':
        return shows_kept(book, kind, lamp, rule, value[1], value[2])
    if value[0] != 'breaks' or not breaks_in(book, kind, lamp, rule, value[1], value[2]):
        return False
    low, _, high = nearest_break(book, kind, lamp, rule, below, above)
    return len(value[1]) == len(low) + 1 + len(high)


def least_triples(book, kind, lamp, rule):
    """The ways to the least triples that are shut, as seen from below and from above; or the error that is named."""
    if lamp not in book.lamps(kind):
        raise NoLamp(lamp)
    rising, sinking = rule_views(book, rule)
    return ways_seen(rising, MOST_TRIPLES), ways_seen(sinking, MOST_TRIPLES)


def rule_views(book, rule):
    """Seen from below, as (gate, marks, state), and seen from above, as (gate, marks, states)."""
    mark_up, mark_down = mark_steps(book)

    def step_up(kind, position, rest):
        return (*mark_up(kind, position, rest[:1]), rule.led(rest[1], kind, position))

    def step_down(kind, position, rest):
        leading = [state for state in rule.states if rule.led(state, kind, position) in rest[1]]
        return (*mark_down(kind, position, rest[:1]), tuple(leading))

    bare = Standing.bare(book.wires).marks
    return end_views(book, (bare, rule.begin), (bare, rule.lit), step_up, step_down)


def nearest_break(book, kind, lamp, rule, below, above):
    """The shortest house at a meeting of which the lamp is not as the rule says, in three parts, or None."""
    look = Look(book, lamp_ends(book.rows(kind), lamp), is_lit_by)

    def arrive(name, position, rest):
        marks, state = rest
        return look.near(name, position, marks), rule.led(state, name, position)

    def is_broken(arrived, rest):
        near, state = arrived
        marks, states = rest
        return look.told(near, marks) != (state in states)

    return nearest(book, kind, below, above, arrive, is_broken)


def shows_kept(book, kind, lamp, rule, below, above):
    """Whether any two values are shut, as seen from below and from above, and at none of their meetings it breaks."""

    def is_rest_below(rest):
        return len(rest) == 1 and rest[0] in rule.states

    def is_rest_above(rest):
        return len(rest) == 1 and are_rule_states(rule, rest[0])

    rising, sinking = rule_views(book, rule)
    if not is_evidence(book, rising, below, is_rest_below) or not is_evidence(book, sinking, above, is_rest_above):
        return False
    return nearest_break(book, kind, lamp, rule, without_ways(below), without_ways(above)) is None


def are_rule_states(rule, value):
    """Whether any value is an ascending tuple of states of the rule."""
    return isinstance(value, tuple) and all([state in rule.states for state in value]) and is_ascending(value)


def breaks_in(book, kind, lamp, rule, landings, number):
    """Whether any two values are landings of a house and the number of one at which it is not as the rule says."""
    if not are_landings(book, landings) or not is_number(landings, number) or landings[number][0] != kind:
        return False
    house = House(book, landings)
    return (house.word(number, lamp) == LIT) != rule(house)
