"""Telling: which of several books fit what was tried, and what is to be tried to tell them apart."""

from landingwires.books import Book
from landingwires.errors import BadBooks, BadTrials
from landingwires.gates import are_landings
from landingwires.houses import House
from landingwires.landings import all_lamps
from landingwires.pairing import is_of_one_form, least_pairs, nearest_unlike
from landingwires.places import is_number
from landingwires.values import is_ascending, is_int
from landingwires.words import lit_of

MOST_BOOKS = 6
MOST_TRIALS = 12


def fitting(books, trials):
    """The numbers of the books by which just the lamps that were lit are lit in all trials."""
    check_books(books)
    if not are_trials(books[0], trials):
        raise BadTrials(trials)
    return tuple([number for number, book in enumerate(books)
                  if all([House(book, landings).lit == lit for landings, lit in trials])])


def parting(books):
    """A shortest house in which not the same lamps are lit by all books, or that there is none."""
    check_books(books)
    pairs = [(other, *least_pairs(books[0], other)) for other in books[1:]]
    houses = [nearest_unlike(books[0], other, below, above, lit_of) for other, below, above in pairs]
    found = [(*low, landing, *high) for low, landing, high in [parts for parts in houses if parts is not None]]
    if not found:
        return ('one',)
    landings = min(found, key=len)
    return 'parts', landings, groups_at(books, landings)


def shows_parting(books, value):
    """Whether any value shows that the same lamps are lit by all books, or that they are not."""
    found = parting(books)
    if found[0] == 'one' or not isinstance(value, tuple) or len(value) != 3:
        return value == found
    if value[0] != 'parts' or not are_landings(books[0], value[1]) or len(value[1]) != len(found[1]):
        return False
    groups = groups_at(books, value[1])
    return len(groups) > 1 and are_rows_of_integers(value[2]) and value[2] == groups


def groups_at(books, landings):
    """The numbers of the books, those by which the same lamps are lit together."""
    lit = [House(book, landings).lit for book in books]
    groups = [tuple([number for number, lamps in enumerate(lit) if lamps == some]) for some in lit]
    return tuple([group for number, group in enumerate(groups) if group[0] == number])


def are_rows_of_integers(value):
    """Whether any value is a tuple of tuples of integers."""
    if not isinstance(value, tuple) or not all([isinstance(row, tuple) for row in value]):
        return False
    return all([is_int(number) for row in value for number in row])


def check_books(value):
    """Refuse any value that is no tuple of one to six books, each of one form with the first one."""
    if not isinstance(value, tuple) or not 1 <= len(value) <= MOST_BOOKS or not isinstance(value[0], Book):
        raise BadBooks(value)
    if not all([is_of_one_form(value[0], book) for book in value]):
        raise BadBooks(value)


def are_trials(book, value):
    """Whether any value is a tuple of trials, none to twelve of them."""
    if not isinstance(value, tuple) or len(value) > MOST_TRIALS:
        return False
    return all([is_trial(book, trial) for trial in value])


def is_trial(book, value):
    """Whether any value is a pair of the landings of a house and lamps there that may have been lit."""
    if not isinstance(value, tuple) or len(value) != 2 or not are_landings(book, value[0]):
        return False
    landings, lit = value
    if not isinstance(lit, tuple) or not all([is_lamp(book, landings, pair) for pair in lit]):
        return False
    lamps = all_lamps(book, landings)
    return is_ascending([lamps.index(pair) for pair in lit])


def is_lamp(book, landings, value):
    """Whether any value is a pair of the number of one of the landings and a lamp there."""
    if not isinstance(value, tuple) or len(value) != 2 or not is_number(landings, value[0]):
        return False
    return value[1] in book.lamps(landings[value[0]][0])
