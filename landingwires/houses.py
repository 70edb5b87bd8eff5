"""Houses: landings, the switches of each in a position, and what hangs together in them."""

from landingwires.errors import BadLandings, BadPlace, NoLamp, NoLanding, NoSwitch
from landingwires.gates import are_landings
from landingwires.places import is_number, is_place, place_groups
from landingwires.rows import lamp_ends
from landingwires.standings import Standing
from landingwires.words import word_of


class House:
    """One house of a book, all its switches standing still; it never changes."""

    def __init__(self, book, landings):
        if not are_landings(book, landings):
            raise BadLandings(landings)
        self._book = book
        self._landings = landings
        self._groups = place_groups(book, landings)

    @property
    def book(self):
        """The book by which it is wired."""
        return self._book

    @property
    def landings(self):
        """The pairs (kind, position) of the landings, from the lowest one up."""
        return self._landings

    @property
    def is_short(self):
        """Whether live and back hang together."""
        return self._groups[(0, 'live')] == self._groups[(0, 'back')]

    @property
    def lit(self):
        """(number, lamp) of all lamps that are lit."""
        lamps = [(number, lamp) for number, (kind, position) in enumerate(self._landings)
                 for lamp in self._book.lamps(kind)]
        return tuple([(number, lamp) for number, lamp in lamps if self.word(number, lamp) == 'lit'])

    def word(self, number, lamp):
        """The word of a lamp."""
        self._check_number(number)
        kind = self._landings[number][0]
        if lamp not in self._book.lamps(kind):
            raise NoLamp(lamp)
        points = ('live', 'back', *lamp_ends(self._book.rows(kind), lamp))
        live, back, one, other = [self._groups[(number, point)] for point in points]
        return word_of(live, back, one, other)

    def joined(self, one, other):
        """Whether two places hang together."""
        for place in (one, other):
            if not is_place(self._book, self._landings, place):
                raise BadPlace(place)
        return self._groups[one] == self._groups[other]

    def below(self, number):
        """What hangs together below a landing by the landings there alone."""
        self._check_number(number)
        standing = Standing.bare(self._book.wires)
        for kind, position in self._landings[:number]:
            standing = self._book.risen(kind, position, standing)
        return standing

    def above(self, number):
        """What hangs together above a landing by the landings there alone."""
        self._check_number(number)
        standing = Standing.bare(self._book.wires)
        for kind, position in self._landings[:number:-1]:
            standing = self._book.sunk(kind, position, standing)
        return standing

    def turned(self, number, switch):
        """The house with this switch in its other position."""
        self._check_number(number)
        kind, position = self._landings[number]
        switches = self._book.switches(kind)
        if switch not in switches:
            raise NoSwitch(switch)
        at = switches.index(switch)
        landing = (kind, (*position[:at], 1 - position[at], *position[at + 1:]))
        return House(self._book, (*self._landings[:number], landing, *self._landings[number + 1:]))

    def __len__(self):
        return len(self._landings)

    def __getitem__(self, number):
        self._check_number(number)
        return self._landings[number]

    def __iter__(self):
        raise TypeError('a house is not iterated over')

    def __invert__(self):
        return House(~self._book, self._landings[::-1])

    def __eq__(self, other):
        return isinstance(other, House) and self._book == other._book and self._landings == other._landings

    def _check_number(self, number):
        if not is_number(self._landings, number):
            raise NoLanding(number)
