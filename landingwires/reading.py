"""Reading the text of a book."""

from landingwires.errors import BadBook
from landingwires.rows import has_room, told_row
from landingwires.values import is_name

WIRES = ('1', '2', '3', '4')
MOST_KINDS = 4
MOST_ITEMS = 5
ANY_NUMBER = '*'


def read_book(text):
    """(wires, kinds, order) of a text, kinds being pairs of a name and its rows; or BadBook."""
    if not isinstance(text, str):
        raise BadBook(0)
    lines = text.split('\n')
    wires = told_wires(lines[0])
    if wires is None:
        raise BadBook(1)
    kinds = read_kinds(lines, wires)
    at = 1 + sum([1 + len(rows) for name, rows in kinds])
    order = told_order(lines[at], [name for name, rows in kinds]) if at < len(lines) else None
    if order is None:
        raise BadBook(at + 1)
    if at + 1 < len(lines):
        raise BadBook(at + 2)
    return wires, kinds, order


def told_wires(line):
    """The number of wires that a line tells, or None."""
    words = line.split(' ')
    if len(words) != 2 or words[0] != 'wires' or words[1] not in WIRES:
        return None
    return int(words[1])


def read_kinds(lines, wires):
    """The kinds that stand behind the first line, up to the first line that is not of one."""
    kinds = []
    names = []
    at = 1
    while at < len(lines) and len(names) < MOST_KINDS:
        name = told_kind(lines[at])
        if name is None or name in names:
            break
        rows = read_rows(lines, at + 1, wires)
        kinds.append((name, rows))
        names.append(name)
        at = at + 1 + len(rows)
    return kinds


def told_kind(line):
    """The name of the kind that a line begins, or None."""
    words = line.split(' ')
    if len(words) != 2 or words[0] != 'kind' or not is_name(words[1]):
        return None
    return words[1]


def read_rows(lines, start, wires):
    """The rows of a kind whose own lines begin there."""
    rows = []
    at = start
    while at < len(lines) and lines[at].startswith('  '):
        row = told_row(lines[at], wires)
        if row is None or not has_room(rows, row):
            raise BadBook(at + 1)
        rows.append(row)
        at = at + 1
    return tuple(rows)


def told_order(line, names):
    """The items that the last line tells, as pairs (kind, whether any number of them can be), or None."""
    words = line.split(' ')
    items = tuple([(word.removesuffix(ANY_NUMBER), word.endswith(ANY_NUMBER)) for word in words[1:]])
    if words[0] != 'house' or not 1 <= len(items) <= MOST_ITEMS:
        return None
    return items if all([name in names for name, starred in items]) else None
