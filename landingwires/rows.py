"""Rows: the lines of a kind, each as the tuple of its words, and what they join."""

from landingwires.standings import merged
from landingwires.values import ENDS, is_name

# How many points stand at the end of a row of each form.
POINTS = {'link': 2, 'switch': 2, 'turn': 3, 'cross': 4, 'lamp': 2}
SWITCHES = ('switch', 'turn', 'cross')
BELOW = 'b'
ABOVE = 'a'
MOST_ROWS = 12
MOST_SWITCHES = 3
MOST_LAMPS = 3
MOST_INNER = 6


def wire_points(side, wires):
    """The points at which the wires reach a landing from one side."""
    return [side + str(number + 1) for number in range(wires)]


def told_row(line, wires):
    """The row that a line of a kind tells, or None if it has no such form."""
    row = tuple(line[2:].split(' '))
    if row[0] not in POINTS:
        return None
    points = points_of(row)
    if len(points) != POINTS[row[0]] or not are_unlike(points):
        return None
    if row[0] != 'link' and not is_name(row[1]):
        return None
    known = [*wire_points(BELOW, wires), *wire_points(ABOVE, wires), *ENDS]
    return row if all([point in known or is_name(point) for point in points]) else None


def are_unlike(words):
    """Whether no word stands twice among these."""
    return len(set(words)) == len(words)


def points_of(row):
    """The points of a row, in sequence."""
    return row[1:] if row[0] == 'link' else row[2:]


def switch_names(rows):
    """The names of the switches, in sequence."""
    return [row[1] for row in rows if row[0] in SWITCHES]


def lamp_names(rows):
    """The names of the lamps, in sequence."""
    return [row[1] for row in rows if row[0] == 'lamp']


def inner_points(rows):
    """The inner points of a kind, each once."""
    found = []
    for row in rows:
        for point in points_of(row):
            if is_name(point) and point not in found:
                found.append(point)
    return found


def has_room(rows, row):
    """Whether a row may stand behind these rows of its kind."""
    told = [*rows, row]
    switches = switch_names(told)
    lamps = lamp_names(told)
    if len(told) > MOST_ROWS or len(switches) > MOST_SWITCHES or len(lamps) > MOST_LAMPS:
        return False
    return are_unlike(switches) and are_unlike(lamps) and len(inner_points(told)) <= MOST_INNER


def joins(rows, position):
    """The pairs of points that a landing joins by itself in this position."""
    pairs = []
    switches = 0
    for row in rows:
        if row[0] == 'link':
            pairs.append((row[1], row[2]))
        elif row[0] in SWITCHES:
            pairs.extend(switched(row, position[switches]))
            switches = switches + 1
    return pairs


def switched(row, turned):
    """The pairs of points that a switch joins, turned being 0 or 1."""
    points = points_of(row)
    if row[0] == 'switch':
        return [points] if turned == 1 else []
    if row[0] == 'turn':
        return [(points[0], points[1 + turned])]
    one, two, three, four = points
    return [(one, two), (three, four)] if turned == 0 else [(one, four), (three, two)]


def led_marks(pairs, inner, marks, near, far):
    """The marks at the far side of a landing that joins these pairs, marks being those at its near side."""
    near_things = [*wire_points(near, len(marks) - 2), *ENDS]
    far_things = [*wire_points(far, len(marks) - 2), *ENDS]
    # A mark is the least number that hangs together, so the things that are told stand first.
    points = [*far_things, *near_things[:-2], *inner]
    together = list(range(len(points)))
    for one, other in [(near_things[at], near_things[mark]) for at, mark in enumerate(marks)] + pairs:
        together = merged(together, points.index(one), points.index(other))
    return tuple(together[:len(far_things)])
