"""What several tests share: values of all sorts, books, and a slow reckoning of what hangs together."""

import itertools
import random

from landingwires.books import Book
from landingwires.errors import WireError
from landingwires.standings import Standing

FOOT = 'kind foot\n  turn s live a1 a2\n  lamp l a3 back'
STAIR = 'kind stair\n  cross s b1 a1 b2 a2\n  link b3 a3\n  lamp l a3 back'
HEAD = 'kind head\n  turn s b3 b1 b2\n  lamp l b3 back'
HALL = '\n'.join(['wires 3', FOOT, STAIR, HEAD, 'house foot stair* head'])
SMALL = 'wires 1\nkind foot\n  switch s b1 a1\nhouse foot*'
MIXED = '\n'.join([
    'wires 2', 'kind low', '  switch s live a1', '  turn t back x a2', '  lamp l x a1', '  link x b2',
    'kind mid', '  cross s b1 a1 y b2', '  turn t y a2 live', '  switch u b1 b2', '  link a1 y',
    'kind top', 'house low* mid top* low mid*'])

ANY_VALUES = (
    0, 1, -1, 5, 13, 10 ** 11, True, False, None, '', 'a', 'foot', 'nobody', 'b1', 'live', (), (0,), (2,), (True,),
    (0, 1), ('foot', (0,)), [], [0], [(0,)], {}, {'foot': 1}, (((((0,),),),),), [[[[[None]]]]])


def any_values():
    """Values of all sorts that the document calls any value."""
    return [*ANY_VALUES, nested(30), Standing.bare(1), Standing.bare(4), Book(SMALL), WireError(3)]


def nested(depth):
    """A value that is nested so deep."""
    value = 0
    for turn in range(depth):
        value = (value,) if turn % 2 else [value]
    return value


def check_raises(case, error, value, call, *args, **named):
    """Check that the call raises just this error with the very value."""
    with case.assertRaises(WireError) as caught:
        call(*args, **named)
    case.assertIs(caught.exception.__class__, error)
    case.assertIs(caught.exception.value, value)


def all_marks(things):
    """The marks of all ways in which so many things can hang together."""
    found = [()]
    for at in range(things):
        found = [marks + (mark,) for marks in found for mark in sorted(set(marks)) + [at]]
    return found


def all_standings(wires):
    """All standings with so many wires."""
    return [Standing(marks) for marks in all_marks(wires + 2)]


def all_positions(book, kind):
    """All positions of a kind."""
    return list(itertools.product((0, 1), repeat=len(book.switches(kind))))


def all_steps(book):
    """All that risen and sunk can be asked of a book."""
    standings = all_standings(book.wires)
    return [(kind, position, standing) for kind in book.kinds for position in all_positions(book, kind)
            for standing in standings]


def lines_of(book, kind):
    """The words of the lines of a kind."""
    lines = book.text.split('\n')
    start = lines.index('kind ' + kind) + 1
    return [line.split() for line in itertools.takewhile(lambda line: line.startswith('  '), lines[start:])]


def pairs_of(lines, position):
    """The pairs that lines join, written out form by form."""
    pairs, left = [], list(position)
    for form, *words in lines:
        if form == 'link':
            pairs.append(tuple(words))
        elif form == 'switch' and left.pop(0):
            pairs.append(tuple(words[1:]))
        elif form == 'turn':
            pairs.append((words[1], words[3] if left.pop(0) else words[2]))
        elif form == 'cross':
            _, p, q, r, t = words
            pairs.extend([(p, t), (r, q)] if left.pop(0) else [(p, q), (r, t)])
    return pairs


def reached(pairs, start):
    """All points to which a row of pairs leads from a point."""
    found, waiting = {start}, [start]
    while waiting:
        point = waiting.pop()
        for pair in pairs:
            if point in pair:
                waiting.extend(set(pair) - found)
                found.update(pair)
    return found


def slow_step(book, kind, position, standing, near, far):
    """The marks at the far side of a landing, reckoned by walking from point to point."""
    ends = ['live', 'back']
    near_things = [f'{near}{wire + 1}' for wire in range(book.wires)] + ends
    far_things = [f'{far}{wire + 1}' for wire in range(book.wires)] + ends
    pairs = pairs_of(lines_of(book, kind), position)
    pairs += [pair for pair in zip(near_things, [near_things[mark] for mark in standing.marks])]
    return tuple(min(at for at, other in enumerate(far_things) if other in reached(pairs, thing))
                 for thing in far_things)


def drawn_books(wires, count):
    """Books with lines of all forms, drawn by lot, the same at each call."""
    lots = random.Random(1000 + wires)
    ends = [f'{side}{wire + 1}' for side in 'ab' for wire in range(wires)] + ['live', 'back', 'x', 'y']
    sizes = {'link': 2, 'switch': 2, 'turn': 3, 'cross': 4, 'lamp': 2}
    books = []
    for _ in range(count):
        forms = lots.sample(['switch', 'turn', 'cross'], 2) + ['link'] * lots.randrange(3) + ['lamp']
        lots.shuffle(forms)
        lines = []
        for at, form in enumerate(forms):
            name = '' if form == 'link' else ' ' + 'stuvwxyz'[at]
            lines.append(f"  {form}{name} {' '.join(lots.sample(ends, sizes[form]))}")
        books.append(Book('\n'.join([f'wires {wires}', 'kind k', *lines, 'kind e', 'house k* e k'])))
    return books
