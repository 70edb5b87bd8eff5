"""Stairs: houses that grow live, landing by landing, and can be led back."""

from landingwires.books import Book
from landingwires.errors import (BadJournal, BadPosition, BadSay, Empty, NoRoom, NothingToRedo, NothingToUndo, NoTrial,
                                 Unlike, WireError)
from landingwires.gates import gates_behind
from landingwires.landings import check_number, lamp_word, lit_lamps, with_position, with_turned
from landingwires.lines import DEEDS, do_deed, told_words
from landingwires.pairing import is_of_one_form
from landingwires.places import place_groups
from landingwires.positions import is_position, written

MOST_LANDINGS = 60
CHANGE = 'change '
LINE_FEED = '/'


class Stair:
    """A house that grows; it is led by deeds, which can be undone."""

    def __init__(self, book):
        # What stood at first and behind each deed that stands, as (line of the deed, book, landings).
        self._past = (('', book, ()),)
        # The deeds that were taken back, the one that is done again next at the end.
        self._future = ()
        self._trial = None

    @property
    def book(self):
        """The book by which it is wired now."""
        return self._past[-1][1]

    @property
    def landings(self):
        """The pairs (kind, position) of the landings that are there, from the lowest one up."""
        return self._past[-1][2]

    @property
    def is_house(self):
        """Whether the landings are those of a house."""
        return len(self.landings) > 0 and len(self.book.order) in self._gates(())

    @property
    def done(self):
        """How many deeds stand."""
        return len(self._past) - 1

    @property
    def lit(self):
        """(number, lamp) of all lamps that are lit."""
        return lit_lamps(self.book, self.landings, place_groups(self.book, self.landings))

    @property
    def journal(self):
        """The lines of all deeds that stand, in sequence."""
        return tuple([line for line, book, landings in self._past[1:]])

    def word(self, number, lamp):
        """The word of a lamp."""
        return lamp_word(self.book, self.landings, place_groups(self.book, self.landings), number, lamp)

    def add(self, kind, position):
        """Put a landing on top."""
        self._check_position(kind, position)
        if len(self.landings) >= MOST_LANDINGS or not self._gates((kind,)):
            raise NoRoom(kind)
        self._do(f'add {kind} {written(position)}', self.book, (*self.landings, (kind, position)))

    def take(self):
        """Take the uppermost landing away."""
        if not self.landings:
            raise Empty(None)
        self._do('take', self.book, self.landings[:-1])

    def turn(self, number, switch):
        """Turn a switch."""
        landings = with_turned(self.book, self.landings, number, switch)
        self._do(f'turn {number} {switch}', self.book, landings)

    def change(self, other):
        """Wire it anew by another book."""
        if not is_of_one_form(self.book, other):
            raise Unlike(other)
        self._do(CHANGE + other.text.replace('\n', LINE_FEED), other, self.landings)

    def undo(self):
        """Take the last deed back that stands."""
        if self.done == 0:
            raise NothingToUndo(None)
        self._future = (*self._future, self._past[-1])
        self._past = self._past[:-1]

    def redo(self):
        """Do the deed again that was taken back last."""
        if not self._future:
            raise NothingToRedo(None)
        self._past = (*self._past, self._future[-1])
        self._future = self._future[:-1]

    def trial(self):
        """What a block is entered with behind which the stair is as ahead of it, unless it is kept."""
        return Trial(self)

    def tried(self, look, *, keep=False):
        """What look returns for the stair, called within such a block."""
        with self.trial() as held:
            found = look(held)
            if keep is True:
                held.keep()
        return found

    def keep(self):
        """Keep what is done in the innermost block."""
        if self._trial is None:
            raise NoTrial(None)
        self._trial.mark()

    def copy(self):
        """An independent stair, alike in all things, outside of all blocks."""
        other = Stair(self.book)
        other._past = self._past
        other._future = self._future
        return other

    def __len__(self):
        return len(self.landings)

    def __getitem__(self, number):
        check_number(self.landings, number)
        return self.landings[number]

    def __setitem__(self, number, position):
        check_number(self.landings, number)
        self._check_position(self.landings[number][0], position)
        self._do(f'set {number} {written(position)}', self.book, with_position(self.landings, number, position))

    def __iter__(self):
        raise TypeError('a stair is not iterated over')

    def __eq__(self, other):
        return isinstance(other, Stair) and self.book == other.book and self.landings == other.landings

    def _do(self, line, book, landings):
        self._past = (*self._past, (line, book, landings))
        self._future = ()

    def _gates(self, more):
        return gates_behind(self.book.order, [*[kind for kind, position in self.landings], *more])

    def _check_position(self, kind, position):
        if not is_position(position, len(self.book.switches(kind))):
            raise BadPosition(position)


class Trial:
    """A block behind which a stair is as ahead of it, unless it is kept and no error left it."""

    def __init__(self, stair):
        self._stair = stair
        self._outer = None
        self._past = ()
        self._future = ()
        self._kept = None

    def mark(self):
        """Keep what is done in this block."""
        self._kept = True

    def __enter__(self):
        stair = self._stair
        self._outer = stair._trial
        self._past = stair._past
        self._future = stair._future
        stair._trial = self
        return stair

    def __exit__(self, kind, value, trace):
        stair = self._stair
        if kind is not None or self._kept is None:
            stair._past = self._past
            stair._future = self._future
        stair._trial = self._outer


def read_stair(book, lines):
    """The stair in which all that these lines tell was done."""
    if not isinstance(lines, tuple):
        raise BadJournal(0)
    stair = Stair(book)
    for at, line in enumerate(lines):
        try:
            do_line(stair, line)
        except WireError:
            raise BadJournal(at + 1) from None
    return stair


def do_line(stair, line):
    """Do the deed that a line of a journal tells."""
    if isinstance(line, str) and line.startswith(CHANGE) and '\n' not in line:
        stair.change(Book(line.removeprefix(CHANGE).replace(LINE_FEED, '\n')))
        return
    words = told_words(line)
    if words is None or words[0] not in DEEDS:
        raise BadSay(line)
    do_deed(stair, words)
