"""Books: the text in which an electrician draws how the landings are wired."""

from landingwires.errors import BadBook, BadChange, BadPosition, BadStanding, NoKind, NoLine
from landingwires.positions import is_position
from landingwires.reading import read_book
from landingwires.rows import lamp_names, risen_marks, sunk_marks, switch_names
from landingwires.standings import Standing
from landingwires.values import is_int

OTHER_SIDE = {'a1': 'b1', 'a2': 'b2', 'a3': 'b3', 'a4': 'b4', 'b1': 'a1', 'b2': 'a2', 'b3': 'a3', 'b4': 'a4'}


class Book:
    """How the landings of each kind are wired, and which landings a house has; it never changes."""

    def __init__(self, text):
        wires, kinds, order = read_book(text)
        self._text = text
        self._lines = tuple(text.split('\n'))
        self._wires = wires
        self._kinds = tuple([name for name, rows in kinds])
        self._rows = {name: rows for name, rows in kinds}
        self._order = order

    @property
    def text(self):
        """The text, as it was handed in."""
        return self._text

    @property
    def wires(self):
        """How many wires go from each landing to the next one."""
        return self._wires

    @property
    def kinds(self):
        """The names of the kinds, in sequence."""
        return self._kinds

    @property
    def order(self):
        """The items of the last line, each as (kind, whether any number of them can be)."""
        return self._order

    def switches(self, kind):
        """The names of the switches of a kind, in sequence."""
        self._check_kind(kind)
        return tuple(switch_names(self._rows[kind]))

    def lamps(self, kind):
        """The names of the lamps of a kind, in sequence."""
        self._check_kind(kind)
        return tuple(lamp_names(self._rows[kind]))

    def rows(self, kind):
        """The lines of a kind of this book, each as the tuple of its words."""
        return self._rows[kind]

    def put(self, number, text):
        """The book with this text in the place of a line; "": the line is left out."""
        self._check_line(number)
        if not isinstance(text, str):
            raise BadChange(text)
        lines = list(self._lines)
        lines[number - 1:number] = [text] if text else []
        try:
            return Book('\n'.join(lines))
        except BadBook:
            raise BadChange(text) from None

    def risen(self, kind, position, standing):
        """What hangs together above a landing, standing being what does by all that lies below it."""
        self._check_step(kind, position, standing)
        return Standing(risen_marks(self._rows[kind], position, standing.marks))

    def sunk(self, kind, position, standing):
        """What hangs together below a landing, standing being what does by all that lies above it."""
        self._check_step(kind, position, standing)
        return Standing(sunk_marks(self._rows[kind], position, standing.marks))

    def __len__(self):
        return len(self._lines)

    def __getitem__(self, number):
        self._check_line(number)
        return self._lines[number - 1]

    def __iter__(self):
        raise TypeError('a book is not iterated over')

    def __contains__(self, value):
        return isinstance(value, str) and value in self._rows

    def __invert__(self):
        rows = [turned_line(line) for line in self._lines[:-1]]
        words = self._lines[-1].split(' ')
        return Book('\n'.join([*rows, ' '.join([words[0], *words[:0:-1]])]))

    def __eq__(self, other):
        return isinstance(other, Book) and self._text == other._text

    def _check_kind(self, kind):
        if kind not in self:
            raise NoKind(kind)

    def _check_line(self, number):
        if not is_int(number) or not 1 <= number <= len(self._lines):
            raise NoLine(number)

    def _check_step(self, kind, position, standing):
        self._check_kind(kind)
        if not is_position(position, len(switch_names(self._rows[kind]))):
            raise BadPosition(position)
        if not isinstance(standing, Standing) or standing.wires != self._wires:
            raise BadStanding(standing)


def turned_line(line):
    """The line with the wires of either side exchanged; names have no figures, so no other word is met."""
    return ' '.join([OTHER_SIDE.get(word, word) for word in line.split(' ')])
