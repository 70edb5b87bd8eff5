"""Counting: by how many of all positions of a house it is short, or a lamp of it has a word."""

from landingwires.errors import BadKinds, BadWord, NoLamp
from landingwires.gates import gates_behind
from landingwires.landings import check_number
from landingwires.meeting import Look
from landingwires.positions import all_positions
from landingwires.rows import lamp_ends
from landingwires.seeing import mark_steps
from landingwires.standings import Standing
from landingwires.words import WORDS, word_of

MOST_LANDINGS = 300


def shorts(book, kinds):
    """By how many positions live and back hang together."""
    check_kinds(book, kinds)
    step_up, _ = mark_steps(book)
    found = counted(book, kinds, step_up)
    return sum([count for rest, count in found.items() if Standing(rest[0]).is_short])


def many(book, kinds, number, lamp, word):
    """By how many positions a lamp has this word."""
    check_kinds(book, kinds)
    check_number(kinds, number)
    kind = kinds[number]
    if lamp not in book.lamps(kind):
        raise NoLamp(lamp)
    if word not in WORDS:
        raise BadWord(word)
    step_up, step_down = mark_steps(book)
    look = Look(book, lamp_ends(book.rows(kind), lamp), word_of)

    def arrive(name, position, rest):
        return (look.near(name, position, rest[0]),)

    below = with_landing(book, kind, counted(book, kinds[:number], step_up), arrive)
    above = counted(book, kinds[:number:-1], step_down)
    return sum([one * other for low, one in below.items() for high, other in above.items()
                if look.told(low[0], high[0]) == word])


def check_kinds(book, value):
    """Refuse any value that is not the kinds of the landings of a house, 300 at most."""
    if not isinstance(value, tuple) or not 1 <= len(value) <= MOST_LANDINGS:
        raise BadKinds(value)
    if len(book.order) not in gates_behind(book.order, value):
        raise BadKinds(value)


def counted(book, kinds, step):
    """All that can hang together behind landings of these kinds, each with the number of positions by which it does."""
    counts = {(Standing.bare(book.wires).marks,): 1}
    for kind in kinds:
        counts = with_landing(book, kind, counts, step)
    return counts


def with_landing(book, kind, counts, step):
    """Likewise behind one landing more; step tells what it makes of what hangs together ahead of it."""
    found = {}
    for position in all_positions(len(book.switches(kind))):
        for rest, count in counts.items():
            after = step(kind, position, rest)
            found[after] = found.get(after, 0) + count
    return found
