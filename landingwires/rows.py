"""Rows: the lines of a kind, each as the tuple of its words, and what they join."""

from landingwires.standings import merged
from landingwires.values import ENDS, is_name

# How many points stand at the end of a row of each form.
POINTS = {'link': 2, 'switch': 2, 'turn': 3, 'cross': 4, 'lamp': 2}
SWITCHES = ('switch', 'turn', 'cross')
BELOW = 'b'
ABOVE = 'a'
MOST_ROWS = 12
MOST_SWITCHES = 3
MOST_LAMPS = 3
MOST_INNER = 6


def wire_points(side, wires):
    """The points at which the wires reach a landing from one side."""
    return [side + str(number + 1) for number in range(wires)]


def told_row(line, wires):
    """The row that a line of a kind tells, or None if it has no such form."""
    row = tuple(line[2:].split(' '))
    if row[0] not in POINTS:
        return None
    points = points_of(row)
    if len(points) != POINTS[row[0]] or not are_unlike(points):
        return None
    if row[0] != 'link' and not is_name(row[1]):
        return None
    known = [*wire_points(BELOW, wires), *wire_points(ABOVE, wires), *ENDS]
    return row if all([point in known or is_name(point) for point in points]) else None


def are_unlike(words):
    """Whether no word stands twice among these."""
    return len(set(words)) == len(words)


def points_of(row):
    """The points of a row, in sequence."""
    return row[1:] if row[0] == 'link' else row[2:]


def switch_names(rows):
    """The names of the switches, in sequence."""
    return [row[1] for row in rows if row[0] in SWITCHES]


def lamp_names(rows):
    """The names of the lamps, in sequence."""
    return [row[1] for row in rows if row[0] == 'lamp']


def lamp_ends(rows, lamp):
    """The two points between which the lamp with this name is."""
    return [points_of(row) for row in rows if row[0] == 'lamp' and row[1] == lamp][0]


def kind_points(rows, wires):
    """All points of a kind: its wires, live, back and its inner points."""
    return [*wire_points(BELOW, wires), *wire_points(ABOVE, wires), *ENDS, *inner_points(rows)]


def inner_points(rows):
    """The inner points of a kind, each once."""
    found = []
    for row in rows:
        for point in points_of(row):
            if is_name(point) and point not in found:
                found.append(point)
    return found


def has_room(rows, row):
    """Whether a row may stand behind these rows of its kind."""
    told = [*rows, row]
    switches = switch_names(told)
    lamps = lamp_names(told)
    if len(told) > MOST_ROWS or len(switches) > MOST_SWITCHES or len(lamps) > MOST_LAMPS:
        return False
    return are_unlike(switches) and are_unlike(lamps) and len(inner_points(told)) <= MOST_INNER


def joins(rows, position):
    """The pairs of points that a landing joins by itself in this position."""
    pairs = []
    switches = 0
    for row in rows:
        if row[0] == 'link':
            pairs.append((row[1], row[2]))
        elif row[0] in SWITCHES:
            pairs.extend(switched(row, position[switches]))
            switches = switches + 1
    return pairs


def switched(row, turned):
    """The pairs of points that a switch joins, turned being 0 or 1."""
    points = points_of(row)
    if row[0] == 'switch':
        return [points] if turned == 1 else []
    if row[0] == 'turn':
        return [(points[0], points[1 + turned])]
    one, two, three, four = points
    return [(one, two), (three, four)] if turned == 0 else [(one, four), (three, two)]


def risen_marks(rows, position, marks, points=()):
    """The marks above a landing, then those of these points of it, marks being those below it."""
    return led_marks(joins(rows, position), marks, (BELOW, ABOVE), points)


def sunk_marks(rows, position, marks):
    """The marks below a landing, marks being those above it."""
    return led_marks(joins(rows, position), marks, (ABOVE, BELOW), ())


def led_marks(pairs, marks, sides, points):
    """The marks at the far side of a landing that joins these pairs, then those of these points."""
    near, far = [[*wire_points(side, len(marks) - 2), *ENDS] for side in sides]
    # A mark is the least number that hangs together, so the things that are told stand first.
    told = [*far, *points]
    hung = [*pairs, *[(near[at], near[mark]) for at, mark in enumerate(marks)]]
    numbers = {}
    for row in [told, *hung]:
        for point in row:
            numbers.setdefault(point, len(numbers))
    together = list(range(len(numbers)))
    for one, other in hung:
        together = merged(together, numbers[one], numbers[other])
    return tuple([together[numbers[thing]] for thing in told])
