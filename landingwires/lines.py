"""Lines: what is told to a stair or to a desk in words."""

from landingwires.errors import BadPosition
from landingwires.positions import told_position

# How many words a line of each form has.
FORMS = {'add': 3, 'take': 1, 'turn': 3, 'set': 3, 'undo': 1, 'redo': 1, 'lit': 1, 'word': 3, 'can': 4, 'does': 5}
# The forms whose second word is a number.
NUMBERED = ('turn', 'set', 'word')
DEEDS = ('add', 'take', 'turn', 'set')
DIGITS = '0123456789'


def told_words(line):
    """The words of a line that has one of the forms, a number among them as an integer; or None."""
    if not isinstance(line, str) or '\n' in line:
        return None
    words = line.split(' ')
    if FORMS.get(words[0]) != len(words) or '' in words:
        return None
    if words[0] not in NUMBERED:
        return words
    number = told_number(words[1])
    return None if number is None else [words[0], number, *words[2:]]


def told_number(word):
    """The integer that a word is, written as Python writes it, or None."""
    digits = word.removeprefix('-')
    if digits == '' or not all([digit in DIGITS for digit in digits]):
        return None
    number = int(word)
    return number if str(number) == word else None


def do_deed(stair, words):
    """Do the deed that these words tell of a stair."""
    if words[0] == 'take':
        stair.take()
    elif words[0] == 'turn':
        stair.turn(words[1], words[2])
    else:
        stand_so(stair, words)


def stand_so(stair, words):
    """Add a landing, or set one; a position that is written otherwise, or does not fit, is told as its word."""
    word = words[2]
    position = told_position(word)
    told = word if position is None else position
    try:
        if words[0] == 'add':
            stair.add(words[1], told)
        else:
            stair[words[1]] = told
    except BadPosition:
        raise BadPosition(word) from None
