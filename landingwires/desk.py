"""A desk: a stair that is led, and asked, by lines of words."""

from landingwires.books import Book
from landingwires.errors import BadSay
from landingwires.lines import DEEDS, do_deed, told_words
from landingwires.reaching import can
from landingwires.stairs import Stair
from landingwires.switching import effect

DONE = 'done'
NONE_LIT = '-'


class Desk:
    """A stair at which deeds and questions are said in words."""

    def __init__(self, text):
        self._stair = Stair(Book(text))

    @property
    def stair(self):
        """The stair."""
        return self._stair

    def say(self, line):
        """Do what a line tells, or answer what it asks."""
        words = told_words(line)
        if words is None:
            raise BadSay(line)
        if words[0] == 'lit':
            return told_lit(self._stair.lit)
        if words[0] == 'word':
            return self._stair.word(words[1], words[2])
        if words[0] == 'can':
            return told_can(self._stair.book, words[1:])
        if words[0] == 'does':
            return effect(self._stair.book, (words[1], words[2]), (words[3], words[4]))[0]
        return done_so(self._stair, words)


def done_so(stair, words):
    """Do the deed, undo one or do one again, and tell so."""
    if words[0] in DEEDS:
        do_deed(stair, words)
    elif words[0] == 'undo':
        stair.undo()
    else:
        stair.redo()
    return DONE


def told_lit(lamps):
    """The lamps that are lit, in words."""
    return ', '.join([f'{number} {lamp}' for number, lamp in lamps]) if lamps else NONE_LIT


def told_can(book, words):
    """Whether a lamp never has a word, or how many landings a house has in which it does."""
    found = can(book, ('lamp', *words))
    return found[0] if found[0] == 'never' else str(len(found[1]))
