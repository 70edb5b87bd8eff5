"""Houses: landings, the switches of each in a position, and what hangs together in them."""

from landingwires.errors import BadLandings, BadPlace
from landingwires.gates import are_landings
from landingwires.landings import check_number, lamp_word, lit_lamps, with_turned
from landingwires.places import is_place, place_groups
from landingwires.standings import Standing


class House:
    """One house of a book, all its switches standing still; it never changes."""

    def __init__(self, book, landings):
        if not are_landings(book, landings):
            raise BadLandings(landings)
        self._book = book
        self._landings = landings
        self._groups = place_groups(book, landings)

    @property
    def book(self):
        """The book by which it is wired."""
        return self._book

    @property
    def landings(self):
        """The pairs (kind, position) of the landings, from the lowest one up."""
        return self._landings

    @property
    def is_short(self):
        """Whether live and back hang together."""
        return self._groups[(0, 'live')] == self._groups[(0, 'back')]

    @property
    def lit(self):
        """(number, lamp) of all lamps that are lit."""
        return lit_lamps(self._book, self._landings, self._groups)

    def word(self, number, lamp):
        """The word of a lamp."""
        return lamp_word(self._book, self._landings, self._groups, number, lamp)

    def joined(self, one, other):
        """Whether two places hang together."""
        for place in (one, other):
            if not is_place(self._book, self._landings, place):
                raise BadPlace(place)
        return self._groups[one] == self._groups[other]

    def below(self, number):
        """What hangs together below a landing by the landings there alone."""
        check_number(self._landings, number)
        standing = Standing.bare(self._book.wires)
        for kind, position in self._landings[:number]:
            standing = self._book.risen(kind, position, standing)
        return standing

    def above(self, number):
        """What hangs together above a landing by the landings there alone."""
        check_number(self._landings, number)
        standing = Standing.bare(self._book.wires)
        for kind, position in self._landings[:number:-1]:
            standing = self._book.sunk(kind, position, standing)
        return standing

    def turned(self, number, switch):
        """The house with this switch in its other position."""
        return House(self._book, with_turned(self._book, self._landings, number, switch))

    def __len__(self):
        return len(self._landings)

    def __getitem__(self, number):
        check_number(self._landings, number)
        return self._landings[number]

    def __iter__(self):
        raise TypeError('a house is not iterated over')

    def __invert__(self):
        return House(~self._book, self._landings[::-1])

    def __eq__(self, other):
        return isinstance(other, House) and self._book == other._book and self._landings == other._landings
