"""Meetings: a landing with what is seen below it and what is seen above it."""

from landingwires.gates import landing_gate
from landingwires.positions import all_positions
from landingwires.rows import risen_marks
from landingwires.standings import merged


class Look:
    """What is told of some points of a landing at its meetings, each reckoned once.

    tell is handed numbers of live, back and the points that are equal for those that hang together.
    """

    def __init__(self, book, points, tell):
        self._book = book
        self._points = points
        self._tell = tell
        self._near = {}
        self._told = {}

    def near(self, kind, position, marks):
        """The marks above a landing and of its points by this landing and by what is seen below it."""
        key = (kind, position, marks)
        if key not in self._near:
            self._near[key] = risen_marks(self._book.rows(kind), position, marks, self._points)
        return self._near[key]

    def told(self, near, marks):
        """What is told when this and what is seen above the landing hang together."""
        key = (near, marks)
        if key not in self._told:
            self._told[key] = self._tell(put_together(near, marks)[len(marks) - 2:])
        return self._told[key]


def put_together(near, marks):
    """The marks when these marks of the first things, too, are told."""
    together = near
    for at, mark in enumerate(marks):
        if at != mark:
            together = merged(together, at, mark)
    return together


def nearest(book, kind, below, above, arrive, is_so):
    """A shortest house at a meeting of which it is so: the lower landings, the landing, the upper landings; or None.

    below and above are the ways to what is seen, the shortest ones first; a kind of None is any one. arrive tells what
    a landing makes of what is seen below it, is_so whether it is so by this and what is seen above the landing.
    """
    best = None
    for item, (name, starred) in enumerate(book.order):
        if kind is None or name == kind:
            best = nearest_at(book, item, below, above, arrive, is_so, best)
    return best


def nearest_at(book, item, below, above, arrive, is_so, best):
    """Likewise at the landings of one item; best is what was found elsewhere, or None."""
    gate = landing_gate(book.order, item)
    leaving = [(state[1:], way) for state, way in above.items() if state[0] == gate]
    for near, (low, landing) in arrivals(book, item, below, arrive).items():
        for rest, high in leaving:
            if best is not None and len(low) + len(high) >= len(best[0]) + len(best[2]):
                break
            if is_so(near, rest):
                best = (low, landing, high)
    return best


def arrivals(book, item, below, arrive):
    """All that landings of an item make of what is seen below them, each with a shortest way and the landing."""
    kind = book.order[item][0]
    positions = all_positions(len(book.switches(kind)))
    found = {}
    for state, way in below.items():
        if state[0] == item:
            for position in positions:
                found.setdefault(arrive(kind, position, state[1:]), (way, (kind, position)))
    return found
