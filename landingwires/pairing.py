"""Pairing: two books of one form, and all that is seen of their houses by both of them."""

from landingwires.books import Book
from landingwires.meeting import Look, nearest
from landingwires.rows import lamp_ends
from landingwires.seeing import MOST_TRIPLES, end_views, mark_steps, ways_seen
from landingwires.standings import Standing


def is_of_one_form(one, value):
    """Whether any value is a book with the same items, whose kinds have the same switches and lamps, as in the book."""
    if not isinstance(value, Book) or one.order != value.order:
        return False
    kinds = [kind for kind, starred in one.order]
    return all([one.switches(kind) == value.switches(kind) and one.lamps(kind) == value.lamps(kind) for kind in kinds])


def pair_views(one, other):
    """Seen from below and seen from above, as triples (gate, marks by one, marks by other)."""
    up_one, down_one = mark_steps(one)
    up_other, down_other = mark_steps(other)

    def step_up(kind, position, rest):
        return (*up_one(kind, position, rest[:1]), *up_other(kind, position, rest[1:]))

    def step_down(kind, position, rest):
        return (*down_one(kind, position, rest[:1]), *down_other(kind, position, rest[1:]))

    bare = (Standing.bare(one.wires).marks, Standing.bare(other.wires).marks)
    return end_views(one, bare, bare, step_up, step_down)


def least_pairs(one, other):
    """The ways to the least triples that are shut, as seen from below and from above; or TooMany."""
    rising, sinking = pair_views(one, other)
    return ways_seen(rising, MOST_TRIPLES), ways_seen(sinking, MOST_TRIPLES)


def nearest_unlike(one, other, below, above, tell):
    """The shortest house at a meeting of which unlike things are told of a landing's lamps, in three parts, or None."""
    looks = {kind: [lamps_look(book, kind, tell) for book in (one, other)] for kind, starred in one.order}

    def arrive(kind, position, rest):
        near = [look.near(kind, position, marks) for look, marks in zip(looks[kind], rest)]
        return kind, near[0], near[1]

    def is_unlike(arrived, rest):
        kind, near, beside = arrived
        mine, yours = looks[kind]
        return mine.told(near, rest[0]) != yours.told(beside, rest[1])

    return nearest(one, None, below, above, arrive, is_unlike)


def lamps_look(book, kind, tell):
    """A look at the ends of all lamps of a kind."""
    rows = book.rows(kind)
    points = [point for lamp in book.lamps(kind) for point in lamp_ends(rows, lamp)]
    return Look(book, points, tell)
