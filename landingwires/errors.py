"""The errors of the package. Each keeps its only argument, any value, as `value`."""


class WireError(ValueError):
    """Something was asked that the document names an error for."""

    def __init__(self, value):
        self.value = value


class BadMarks(WireError):
    """These are not the marks of a standing."""


class BadWires(WireError):
    """This is not a number of wires."""


class OtherWires(WireError):
    """This standing has another number of wires."""


class BadBook(WireError):
    """The line with this number cannot stand there; 0: the text is no string."""


class NoKind(WireError):
    """The book has no kind with this name."""


class NoLine(WireError):
    """The book has no line with this number."""


class BadChange(WireError):
    """With this text in the place of the line no book comes."""


class BadPosition(WireError):
    """This is not a position of the kind."""


class BadStanding(WireError):
    """This is not a standing with as many wires as the book."""


class BadLandings(WireError):
    """These are not the landings of a house of the book."""


class NoLanding(WireError):
    """There is no landing with this number."""


class NoLamp(WireError):
    """The landing, or its kind, has no lamp with this name."""


class BadPlace(WireError):
    """This is not a place of the house."""


class NoSwitch(WireError):
    """The landing has no switch with this name."""


class BadWhat(WireError):
    """This does not tell what may be."""


class BadSwitch(WireError):
    """The book has no such pair of a kind and a switch."""


class BadLamp(WireError):
    """The book has no such pair of a kind and a lamp."""


class TooMany(WireError):
    """More than so many triples come."""


class BadRule(WireError):
    """The line with this number cannot stand there; 0: the text is no string."""


class Unlike(WireError):
    """This is not a book of one form with the other one."""


class BadBooks(WireError):
    """These are not one to six books of one form."""


class BadTrials(WireError):
    """These are not trials of the books."""


class BadKinds(WireError):
    """These are not the kinds of the landings of a house."""


class BadWord(WireError):
    """This is not one of the four words of a lamp."""


class BadOffers(WireError):
    """These are not offers for the book."""


class BadWishes(WireError):
    """These are not wishes."""


class NoRoom(WireError):
    """No landing of this kind can be put on top."""


class Empty(WireError):
    """There is no landing that could be taken."""


class NothingToUndo(WireError):
    """No deed stands."""


class NothingToRedo(WireError):
    """No deed was taken back that could be done again."""


class NoTrial(WireError):
    """No trial is going on."""


class BadJournal(WireError):
    """The line with this number is no deed that could be done; 0: the lines are no tuple."""


class BadSay(WireError):
    """The desk does not know this line."""
