"""What several tests share: values of all sorts, books, and a slow reckoning of what hangs together."""

import itertools
import random

from landingwires.books import Book
from landingwires.errors import WireError
from landingwires.houses import House
from landingwires.rules import Rule, odd
from landingwires.standings import Standing

FOOT = 'kind foot\n  turn s live a1 a2\n  lamp l a3 back'
STAIR = 'kind stair\n  cross s b1 a1 b2 a2\n  link b3 a3\n  lamp l a3 back'
HEAD = 'kind head\n  turn s b3 b1 b2\n  lamp l b3 back'
HALL = '\n'.join(['wires 3', FOOT, STAIR, HEAD, 'house foot stair* head'])
OLD = 'wires 1\nkind foot\n  turn s x live back\n  lamp l x a1\nkind head\n  turn s b1 live back\nhouse foot head'
SMALL = 'wires 1\nkind foot\n  switch s b1 a1\nhouse foot*'
MIXED = '\n'.join([
    'wires 2', 'kind low', '  switch s live a1', '  turn t back x a2', '  lamp l x a1', '  link x b2',
    'kind mid', '  cross s b1 a1 y b2', '  turn t y a2 live', '  switch u b1 b2', '  link a1 y',
    'kind top', 'house low* mid top* low mid*'])

ANY_VALUES = (
    0, 1, -1, 5, 13, 10 ** 11, True, False, None, '', 'a', 'foot', 'nobody', 'b1', 'live', (), (0,), (2,), (True,),
    (0, 1), ('foot', (0,)), [], [0], [(0,)], {}, {'foot': 1}, (((((0,),),),),), [[[[[None]]]]])


def any_values():
    """Values of all sorts that the document calls any value."""
    return [*ANY_VALUES, *[nested(depth) for depth in (29, 30)], Standing.bare(1), Standing.bare(4), Book(SMALL),
            WireError(3), House(Book(SMALL), (('foot', (0,)),)), Rule('begin even\nlit even')]


def bent_values(value):
    """The value with one thing in it, at any depth, changed for one that can nowhere stand there."""
    yield from (None, [], {}, 'no one', 10 ** 11, nested(30), Standing.bare(2))
    if value.__class__ is tuple:
        yield list(value)
        for at, part in enumerate(value):
            for bent in bent_values(part):
                yield (*value[:at], bent, *value[at + 1:])
    elif value.__class__ is int:
        yield from (bool(value), str(value), -1 - value)
    elif value.__class__ is str:
        yield from (value + ' ', value.upper())


def moved_values(values):
    """A tuple with one item left out, told twice, or exchanged with the next one."""
    for at in range(len(values)):
        yield values[:at] + values[at + 1:]
        yield values[:at] + values[at:at + 1] + values[at:]
    for at in range(len(values) - 1):
        yield values[:at] + (values[at + 1], values[at]) + values[at + 2:]


def nested(depth):
    """A value that is nested so deep."""
    value = 0
    for turn in range(depth):
        value = (value,) if turn % 2 else [value]
    return value


def check_raises(case, error, value, call, /, *args, **named):
    """Check that the call raises just this error with the very value."""
    with case.assertRaises(WireError) as caught:
        call(*args, **named)
    case.assertIs(caught.exception.__class__, error)
    case.assertIs(caught.exception.value, value)


def all_marks(things):
    """The marks of all ways in which so many things can hang together."""
    found = [()]
    for at in range(things):
        found = [marks + (mark,) for marks in found for mark in sorted(set(marks)) + [at]]
    return found


def all_standings(wires):
    """All standings with so many wires."""
    return [Standing(marks) for marks in all_marks(wires + 2)]


def all_positions(book, kind):
    """All positions of a kind."""
    return list(itertools.product((0, 1), repeat=len(book.switches(kind))))


def all_steps(book):
    """All that risen and sunk can be asked of a book."""
    standings = all_standings(book.wires)
    return [(kind, position, standing) for kind in book.kinds for position in all_positions(book, kind)
            for standing in standings]


def lines_of(book, kind):
    """The words of the lines of a kind."""
    lines = book.text.split('\n')
    start = lines.index('kind ' + kind) + 1
    return [line.split() for line in itertools.takewhile(lambda line: line.startswith('  '), lines[start:])]


def pairs_of(lines, position):
    """The pairs that lines join, written out form by form."""
    pairs, left = [], list(position)
    for form, *words in lines:
        if form == 'link':
            pairs.append(tuple(words))
        elif form == 'switch' and left.pop(0):
            pairs.append(tuple(words[1:]))
        elif form == 'turn':
            pairs.append((words[1], words[3] if left.pop(0) else words[2]))
        elif form == 'cross':
            _, p, q, r, t = words
            pairs.extend([(p, t), (r, q)] if left.pop(0) else [(p, q), (r, t)])
    return pairs


def reached(pairs, start):
    """All points to which a row of pairs leads from a point."""
    found, waiting = {start}, [start]
    while waiting:
        point = waiting.pop()
        for pair in pairs:
            if point in pair:
                waiting.extend(set(pair) - found)
                found.update(pair)
    return found


def slow_step(book, kind, position, standing, near, far):
    """The marks at the far side of a landing, reckoned by walking from point to point."""
    ends = ['live', 'back']
    near_things = [f'{near}{wire + 1}' for wire in range(book.wires)] + ends
    far_things = [f'{far}{wire + 1}' for wire in range(book.wires)] + ends
    pairs = pairs_of(lines_of(book, kind), position)
    pairs += [pair for pair in zip(near_things, [near_things[mark] for mark in standing.marks])]
    return tuple(min(at for at, other in enumerate(far_things) if other in reached(pairs, thing))
                 for thing in far_things)


def drawn_books(wires, count):
    """Books with lines of all forms, drawn by lot, the same at each call."""
    lots = random.Random(1000 + wires)
    ends = [f'{side}{wire + 1}' for side in 'ab' for wire in range(wires)] + ['live', 'back', 'x', 'y']
    sizes = {'link': 2, 'switch': 2, 'turn': 3, 'cross': 4, 'lamp': 2}
    books = []
    for _ in range(count):
        forms = lots.sample(['switch', 'turn', 'cross'], 2) + ['link'] * lots.randrange(3) + ['lamp']
        lots.shuffle(forms)
        lines = []
        for at, form in enumerate(forms):
            name = '' if form == 'link' else ' ' + 'stuvwxyz'[at]
            lines.append(f"  {form}{name} {' '.join(lots.sample(ends, sizes[form]))}")
        books.append(Book('\n'.join([f'wires {wires}', 'kind k', *lines, 'kind e', 'house k* e k'])))
    return books


def lots_of_books(wires, count, seed=0):
    """Books with two kinds and a kind that is no item, with lamps, and items of all sorts, drawn by lot."""
    lots = random.Random(2000 + 10 * wires + seed)
    ends = [f'{side}{wire + 1}' for side in 'ab' for wire in range(wires)] + ['live', 'back', 'x']
    sizes = {'link': 2, 'switch': 2, 'turn': 3, 'cross': 4, 'lamp': 2}
    books = []
    for _ in range(count):
        lines = [f'wires {wires}']
        for kind in ('k', 'm', 'out'):
            forms = lots.choices(['switch', 'turn', 'cross', 'link'], k=lots.randrange(1, 3)) + ['lamp']
            lines.append(f'kind {kind}')
            for at, form in enumerate(forms):
                name = '' if form == 'link' else ' ' + 'stuvwxyz'[at]
                lines.append(f"  {form}{name} {' '.join(lots.sample(ends, sizes[form]))}")
        items = [lots.choice(('k', 'm', 'k*', 'm*')) for _ in range(lots.randrange(1, 4))]
        books.append(Book('\n'.join([*lines, ' '.join(['house', *items])])))
    return books


def all_landings(book, most):
    """The landings of all houses of a book with at most so many landings, by all positions, the shortest ones first."""
    counts = [range(most + 1) if starred else (1,) for _, starred in book.order]
    told = {tuple(kind for (kind, _), many in zip(book.order, some) for _ in range(many))
            for some in itertools.product(*counts)}
    return [tuple(zip(kinds, positions)) for kinds in sorted(told, key=lambda kinds: (len(kinds), kinds))
            if 1 <= len(kinds) <= most
            for positions in itertools.product(*[all_positions(book, kind) for kind in kinds])]


def points_of(book, kind):
    """All points of a kind, as the document tells them."""
    wires = [f'{side}{wire + 1}' for side in 'ab' for wire in range(book.wires)]
    inner = [word for form, *words in lines_of(book, kind) for word in (words if form == 'link' else words[1:])]
    return sorted({*wires, 'live', 'back', *inner})


class SlowHouse:
    """A house as the document tells it: places, neighbours, and walks from one to the next."""

    def __init__(self, book, landings):
        self.book, self.landings = book, landings
        self.places = [(number, point) for number, (kind, _) in enumerate(landings) for point in points_of(book, kind)]
        self.pairs = {frozenset(pair) for pair in self.neighbour_pairs()}
        self.found = {}

    def neighbour_pairs(self):
        for number, (kind, position) in enumerate(self.landings):
            for one, other in pairs_of(lines_of(self.book, kind), position):
                yield (number, one), (number, other)
            for other in range(number):
                yield (number, 'live'), (other, 'live')
                yield (number, 'back'), (other, 'back')
            for wire in range(1, self.book.wires + 1):
                if number:
                    yield (number - 1, f'a{wire}'), (number, f'b{wire}')

    def reach(self, place):
        """All places that hang together with this one."""
        if place not in self.found:
            self.found[place] = reached(self.pairs, place)
        return self.found[place]

    def joined(self, one, other):
        return other in self.reach(one)

    def ends(self, number, lamp):
        lines = lines_of(self.book, self.landings[number][0])
        return [(number, point) for form, *words in lines if (form, words[0]) == ('lamp', lamp) for point in words[1:]]

    def word(self, number, lamp):
        live, back = self.reach((0, 'live')), self.reach((0, 'back'))
        one, other = self.ends(number, lamp)
        if live & back:
            return 'short'
        if one in live and other in back or one in back and other in live:
            return 'lit'
        return 'warm' if one in live or other in live else 'dark'

    def lit(self):
        """All lamps that are lit."""
        return tuple((number, lamp) for number, (kind, _) in enumerate(self.landings)
                     for lamp in self.book.lamps(kind) if self.word(number, lamp) == 'lit')

    def is_so(self, number, what):
        """Whether a landing has what may be."""
        if what == ('short',):
            return self.joined((0, 'live'), (0, 'back'))
        if self.landings[number][0] != what[1]:
            return False
        if what[0] == 'lamp':
            return self.word(number, what[2]) == what[3]
        return self.joined((number, what[2]), (number, what[3]))


def slow_turned(book, landings, number, switch):
    """The landings with one switch in its other position."""
    kind, position = landings[number]
    at = book.switches(kind).index(switch)
    return landings[:number] + ((kind, flipped(position, at)),) + landings[number + 1:]


def flipped(position, at):
    """The position with one switch the other way."""
    return position[:at] + ({0: 1, 1: 0}[position[at]],) + position[at + 1:]


def switch_pairs(book):
    """All pairs of a kind and a switch of it."""
    return [(kind, switch) for kind in book.kinds for switch in book.switches(kind)]


def lamp_pairs(book):
    """All pairs of a kind and a lamp of it."""
    return [(kind, lamp) for kind in book.kinds for lamp in book.lamps(kind)]


def is_item(book, kind):
    """Whether there are landings of this kind in houses of the book."""
    return kind in [name for name, _ in book.order]


def drawn_line(line, points, lots):
    """A line with the same name but other points, or another form of switch, drawn by lot."""
    sizes = {'link': 2, 'switch': 2, 'turn': 3, 'cross': 4, 'lamp': 2}
    form, *words = line.split()
    if form in ('switch', 'turn', 'cross'):
        form = lots.choice(('switch', 'turn', 'cross'))
    name = [] if form == 'link' else words[:1]
    return '  ' + ' '.join([form, *name, *lots.sample(points, sizes[form])])


def redrawn(book, lots, many=1):
    """A book of one form with this one, some of its lines drawn anew."""
    points = [f'{side}{wire + 1}' for side in 'ab' for wire in range(book.wires)] + ['live', 'back', 'x']
    lines = book.text.split('\n')
    own = [at for at, line in enumerate(lines) if line.startswith('  ')]
    for at in lots.sample(own, min(many, len(own))):
        lines[at] = drawn_line(lines[at], points, lots)
    return Book('\n'.join(lines))


def slow_lead(book, kind, position, marks, up):
    """The marks at the far side of a landing, each reckoned once."""
    key = book.text, kind, position, marks, up
    if key not in LED:
        led = book.risen if up else book.sunk
        LED[key] = led(kind, position, Standing(marks)).marks
    return LED[key]


def slow_shut(book, starts, up, lead):
    """The least states that are shut, seen from below or from above; lead tells of the part behind the gate."""
    found, waiting = set(starts), list(starts)
    while waiting:
        gate, *rest = waiting.pop()
        led = set()
        for item, (kind, starred) in enumerate(book.order):
            low, high = item, item if starred else item + 1
            here, there = (low, high) if up else (high, low)
            if gate == here:
                led |= {(there, *lead(kind, position, rest)) for position in all_positions(book, kind)}
            here, there = (item, item + 1) if up else (item + 1, item)
            if starred and gate == here:
                led.add((there, *rest))
        waiting += led - found
        found |= led
    return found


LED = {}


def slow_seen(book):
    """The least tuples that are shut, as seen from below and from above, each by going on until nothing comes."""
    last, bare = len(book.order), tuple(range(book.wires + 2))
    below, above = {(0, bare)}, {(last, bare)}
    while True:
        sizes = len(below), len(above)
        for item, (kind, starred) in enumerate(book.order):
            gate = item if starred else item + 1
            if starred:
                below |= {(item + 1, marks) for at, marks in below if at == item}
                above |= {(item, marks) for at, marks in above if at == item + 1}
            for position in all_positions(book, kind):
                below |= {(gate, slow_step(book, kind, position, Standing(marks), 'b', 'a'))
                          for at, marks in below if at == item}
                above |= {(item, slow_step(book, kind, position, Standing(marks), 'a', 'b'))
                          for at, marks in above if at == gate}
        if sizes == (len(below), len(above)):
            return tuple(sorted(below)), tuple(sorted(above))


def all_whats(book):
    """All that may be of a book."""
    yield ('short',)
    for kind in book.kinds:
        for lamp in book.lamps(kind):
            for word in ('short', 'lit', 'warm', 'dark'):
                yield ('lamp', kind, lamp, word)
        for one, other in itertools.combinations(points_of(book, kind), 2):
            yield ('joined', kind, one, other)


def slow_meeting(book, kind, position, one, other):
    """A landing as a slow house, one and other being the marks of what hangs together below it and above it."""
    slow = SlowHouse(book, ((kind, position),))
    for side, marks in (('b', one), ('a', other)):
        things = [f'{side}{wire + 1}' for wire in range(book.wires)] + ['live', 'back']
        slow.pairs |= {frozenset(((0, things[at]), (0, things[mark]))) for at, mark in enumerate(marks)}
    return slow


def slow_move(rule, state, kind, position):
    """The state to which a landing leads, line by line."""
    sign = ''.join(map(str, position)) or '-'
    lines = [line.split() for line in rule.text.split('\n')[1:-1]]
    return next((line[3] for line in lines if line[:3] == [state, kind, sign]), state)


def slow_says(rule, landings):
    """Whether a rule says lit, line by line."""
    lines = rule.text.split('\n')
    state = lines[0].split()[1]
    for kind, position in landings:
        state = slow_move(rule, state, kind, position)
    return state in lines[-1].split()[1:]


def drawn_rules(book, count, seed=0):
    """Rules with moves by the kinds of a book, drawn by lot, behind four plain ones."""
    lots = random.Random(3000 + seed)
    found = [odd(book), ~odd(book), Rule('begin a\nlit'), Rule('begin a\nlit a')]
    for _ in range(count):
        names = 'abcdef'[:lots.randrange(1, 5)]
        lines = [f"{state} {kind} {''.join(map(str, position)) or '-'} {lots.choice(names)}" for state in names
                 for kind in book.kinds for position in all_positions(book, kind) if lots.random() < 0.4]
        lit = sorted(lots.sample(names, lots.randrange(len(names) + 1)))
        found.append(Rule('\n'.join([f'begin {lots.choice(names)}', *lines[:60], ' '.join(['lit', *lit])])))
    return found
