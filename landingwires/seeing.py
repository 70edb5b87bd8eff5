"""Seeing: what is seen of all houses from below and from above, gate by gate, as states (gate, marks, ..)."""

from landingwires.errors import TooMany
from landingwires.gates import landing_gate
from landingwires.positions import all_positions
from landingwires.rows import risen_marks, sunk_marks
from landingwires.standings import Standing, are_marks
from landingwires.values import is_ascending, is_int

MOST_TRIPLES = 1000


class Steps:
    """What rises and sinks by the landings of a book, each reckoned once."""

    def __init__(self, book):
        self._book = book
        self._up = {}
        self._down = {}

    def led_up(self, kind, position, marks):
        """The marks above a landing, marks being those below it."""
        key = (kind, position, marks)
        if key not in self._up:
            self._up[key] = risen_marks(self._book.rows(kind), position, marks)
        return self._up[key]

    def led_down(self, kind, position, marks):
        """The marks below a landing, marks being those above it."""
        key = (kind, position, marks)
        if key not in self._down:
            self._down[key] = sunk_marks(self._book.rows(kind), position, marks)
        return self._down[key]


class Rising:
    """How one comes upwards from state to state; step tells what a landing makes of the part behind the gate.

    starts are the states in which it begins, each with the landings of a way to it.
    """

    def __init__(self, book, starts, step):
        self.starts = starts
        self._book = book
        self._step = step

    def passed(self, state):
        """A state, and those to which one comes from it without a landing."""
        order = self._book.order
        found = [state]
        while found[-1][0] < len(order) and order[found[-1][0]][1]:
            found.append((found[-1][0] + 1, *state[1:]))
        return found

    def led(self, state):
        """Each landing at this gate with the state to which it leads."""
        order = self._book.order
        item = state[0]
        if item == len(order):
            return []
        return led_from(self._book, item, landing_gate(order, item), self._step, state[1:])

    def longer(self, way, landing):
        """The landings of a way and one more, from the lowest one up."""
        return (*way, landing)


class Sinking:
    """How one comes downwards from state to state, told likewise."""

    def __init__(self, book, starts, step):
        self.starts = starts
        self._book = book
        self._step = step

    def passed(self, state):
        """A state, and those to which one comes from it without a landing."""
        order = self._book.order
        found = [state]
        while found[-1][0] > 0 and order[found[-1][0] - 1][1]:
            found.append((found[-1][0] - 1, *state[1:]))
        return found

    def led(self, state):
        """Each landing that leads to this gate with the state below it."""
        order = self._book.order
        found = []
        for item in range(len(order)):
            if landing_gate(order, item) == state[0]:
                found.extend(led_from(self._book, item, item, self._step, state[1:]))
        return found

    def longer(self, way, landing):
        """The landings of a way and one more, from the lowest one up."""
        return (landing, *way)


def led_from(book, item, gate, step, rest):
    """Each landing of an item with the state at this gate to which it leads."""
    kind = book.order[item][0]
    positions = all_positions(len(book.switches(kind)))
    return [((kind, position), (gate, *step(kind, position, rest))) for position in positions]


def mark_steps(book):
    """What a landing makes, upwards and downwards, of a tuple of marks."""
    steps = Steps(book)

    def step_up(kind, position, rest):
        return tuple([steps.led_up(kind, position, marks) for marks in rest])

    def step_down(kind, position, rest):
        return tuple([steps.led_down(kind, position, marks) for marks in rest])

    return step_up, step_down


def end_views(book, low, high, step_up, step_down):
    """Seen from the lowest gate, where this part stands behind it, and from the last gate, where that one does."""
    return Rising(book, [((0, *low), ())], step_up), Sinking(book, [((len(book.order), *high), ())], step_down)


def mark_views(book):
    """Seen from below and seen from above, as pairs (gate, marks)."""
    step_up, step_down = mark_steps(book)
    bare = Standing.bare(book.wires).marks
    return end_views(book, (bare,), (bare,), step_up, step_down)


def ways_seen(view, most=None):
    """The least states that are shut, each with the landings of a way to it.

    If it begins without landings, they are shortest ways, the shortest ones first. TooMany, if they are more than so
    many.
    """
    ways = {}
    layer = view.starts
    while layer:
        fresh = []
        for told, way in layer:
            for state in view.passed(told):
                if state not in ways:
                    ways[state] = way
                    fresh.append(state)
        if most is not None and len(ways) > most:
            raise TooMany(most)
        layer = [(after, view.longer(ways[last], landing)) for last in fresh for landing, after in view.led(last)]
    return ways


def without_ways(states):
    """The states, each with no landings in the place of a way."""
    return {state: () for state in states}


def is_evidence(book, view, value, is_rest):
    """Whether any value is an ascending tuple of states that is shut; is_rest tells of the part behind the marks."""
    return are_states(book, value, is_rest) and is_shut(view, value)


def is_shut(view, states):
    """Whether these states hold those in which it begins, and all to which one comes from them."""
    held = without_ways(states)
    if not all([state in held for state, way in view.starts]):
        return False
    if not all([after in held for state in states for after in view.passed(state)]):
        return False
    return all([after in held for state in states for landing, after in view.led(state)])


def are_states(book, value, is_rest):
    """Whether any value is an ascending tuple of states; is_rest tells of the part behind the marks."""
    if not isinstance(value, tuple) or not all([is_state(book, state, is_rest) for state in value]):
        return False
    return is_ascending(value)


def is_state(book, value, is_rest):
    """Whether any value is a gate of the book, marks with as many wires, and a right part behind them."""
    if not isinstance(value, tuple) or len(value) < 2:
        return False
    if not is_int(value[0]) or not 0 <= value[0] <= len(book.order):
        return False
    return are_marks_of(book, value[1]) and is_rest(value[2:])


def are_marks_of(book, value):
    """Whether any value is marks with as many wires as the book."""
    return are_marks(value) and len(value) == book.wires + 2


def is_nothing(rest):
    """Whether nothing stands behind the marks of a state."""
    return rest == ()
