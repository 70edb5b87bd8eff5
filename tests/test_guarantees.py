"""Points 2 and 3, over the whole program: all houses, parts, upside down, other names, equal calls, and what is live."""

import itertools
import random
import unittest

from landingwires.books import Book
from landingwires.burning import burns, shows_burns
from landingwires.choosing import cheapest
from landingwires.comparing import alike, needless, shows_alike
from landingwires.counting import many, shorts
from landingwires.houses import House
from landingwires.keeping import keeps, shows_keeps
from landingwires.reaching import can, shows_can, standings
from landingwires.rules import Rule, odd
from landingwires.stairs import Stair
from landingwires.switching import effect, shows_effect
from landingwires.telling import fitting, parting, shows_parting
from samples import (HALL, MIXED, OLD, SlowHouse, all_positions, all_whats, lamp_pairs, lots_of_books, points_of, redrawn,
                     slow_says, slow_turned, switch_pairs)

BOOKS = [Book(OLD), Book(HALL), Book(MIXED), *lots_of_books(1, 8, 17), *lots_of_books(2, 5, 17), *lots_of_books(3, 2, 17)]
FOUND = ('short', 'lit', 'warm', 'dark')


def drawn_landings(book, lots, most):
    """The landings of a house, with at most so many for each starred item, by lot."""
    while True:
        kinds = [kind for kind, starred in book.order for _ in range(lots.randrange(most) if starred else 1)]
        if kinds:
            return tuple((kind, lots.choice(all_positions(book, kind))) for kind in kinds)


def asked_of(book, landings):
    """What all functions tell of a book and the landings of a house."""
    kinds = tuple(kind for kind, _ in landings)
    house, told = House(book, landings), [standings(book), shorts(book, kinds), needless(book), fitting((book,), ())]
    told += [house.lit, house.is_short, [house.below(number).marks for number in range(len(house))]]
    for kind, lamp in lamp_pairs(book):
        told += [can(book, ('lamp', kind, lamp, word)) for word in FOUND]
        told += [keeps(book, kind, lamp, odd(book)), [effect(book, mine, (kind, lamp)) for mine in switch_pairs(book)]]
    for number, lamp in [(number, lamp) for number, kind in enumerate(kinds) for lamp in book.lamps(kind)]:
        told += [burns(house, number, lamp), [many(book, kinds, number, lamp, word) for word in FOUND]]
    other = redrawn(book, random.Random(1))
    if [other.lamps(kind) for kind in kinds] == [book.lamps(kind) for kind in kinds]:
        told += [alike(book, other), parting((book, other, book)), fitting((book, other), ((landings, house.lit),))]
    told.append(cheapest(book, ((2, book[2] + '\n  link live b1', 3),), (('never', ('short',)),)))
    return told


class AllHousesTest(unittest.TestCase):

    def test_long_houses_by_lot(self):
        lots, firsts = random.Random(14), set()
        for book in BOOKS:
            never = [what for what in all_whats(book) if can(book, what)[0] == 'never']
            rules = [rule for rule in (odd(book), ~odd(book), Rule('begin a\nlit'), Rule('begin a\nlit a'))]
            kept = [(*pair, rule) for pair in lamp_pairs(book) for rule in rules if keeps(book, *pair, rule)[0] == 'keeps']
            sure = [(mine, theirs, effect(book, mine, theirs)[0]) for mine in switch_pairs(book) for theirs in lamp_pairs(book)]
            firsts |= {word for _, _, word in sure}
            for _ in range(4):
                landings = drawn_landings(book, lots, 7)
                slow = SlowHouse(book, landings)
                for number, (kind, _) in enumerate(landings):
                    self.assertFalse(any(slow.is_so(number, what) for what in never[::3]))
                    for other, lamp, rule in kept:
                        if other == kind:
                            self.assertIs(slow.word(number, lamp) == 'lit', slow_says(rule, landings))
                self.check_turned(book, slow, sure)
        self.assertEqual(firsts, {'always', 'never', 'both', 'none'})

    def check_turned(self, book, slow, sure):
        """Check in one house what a switch is told to do always or never."""
        for mine, theirs, word in sure:
            if word in ('always', 'never'):
                firsts = [number for number, (kind, _) in enumerate(slow.landings) if kind == mine[0]]
                seconds = [number for number, (kind, _) in enumerate(slow.landings) if kind == theirs[0]]
                for first in firsts[:4]:
                    other = SlowHouse(book, slow_turned(book, slow.landings, first, mine[1]))
                    for second in seconds[:4]:
                        turned = (slow.word(second, theirs[1]) == 'lit') != (other.word(second, theirs[1]) == 'lit')
                        self.assertIs(turned, word == 'always', (book.text, slow.landings, mine, theirs))

    def test_books_that_are_alike(self):
        lots, found = random.Random(15), {'alike': 0, 'unlike': 0}
        for book in BOOKS * 4:
            other = redrawn(book, lots)
            if [other.lamps(kind) for kind, _ in book.order] != [book.lamps(kind) for kind, _ in book.order]:
                continue
            if [other.switches(kind) for kind, _ in book.order] == [book.switches(kind) for kind, _ in book.order]:
                told, one = alike(book, other)[0], parting((book, other))[0]
                found[told] += 1
                for _ in range(3):
                    landings = drawn_landings(book, lots, 6)
                    slows = [SlowHouse(some, landings) for some in (book, other)]
                    lamps = [(number, lamp) for number, (kind, _) in enumerate(landings) for lamp in book.lamps(kind)]
                    if told == 'alike':
                        self.assertEqual(*[[slow.word(*lamp) for lamp in lamps] for slow in slows])
                    if one == 'one':
                        self.assertEqual(slows[0].lit(), slows[1].lit())
        self.assertGreater(min(found.values()), 10)

    def test_what_cheapest_tells(self):
        lots = random.Random(16)
        wishes = (('never', ('short',)), ('never', ('lamp', 'stair', 'l', 'warm')), ('always', ('stair', 's'), ('foot', 'l')))
        bad = Book(HALL).put(6, '  switch s b1 a1\n  link b2 a2\n  link live back')
        offers = ((6, '  cross s b1 a1 b2 a2', 3), (7, '', 1), (8, '', 2), (8, '  link live a3', 1))
        found = cheapest(bad, offers, wishes)
        self.assertEqual(found[0], 'choice')
        lines = bad.text.split('\n')
        texts = {number: text for number, text, _ in found[2]}
        told = Book('\n'.join(text for text in [texts.get(number, line) for number, line in enumerate(lines, 1)] if text))
        for _ in range(20):
            landings = drawn_landings(told, lots, 8)
            slow = SlowHouse(told, landings)
            self.assertFalse(slow.is_so(0, ('short',)))
            for number, (kind, _) in enumerate(landings):
                if kind == 'stair':
                    self.assertNotEqual(slow.word(number, 'l'), 'warm')
                    other = SlowHouse(told, slow_turned(told, landings, number, 's'))
                    self.assertNotEqual(slow.word(0, 'l') == 'lit', other.word(0, 'l') == 'lit')


class PartsTest(unittest.TestCase):

    def test_the_part_below_and_the_part_above(self):
        lots = random.Random(17)
        for book in [*BOOKS, *lots_of_books(4, 3, 17)]:
            for _ in range(3):
                landings = drawn_landings(book, lots, 4)
                house, slow = House(book, landings), SlowHouse(book, landings)
                for number in range(1, len(landings)):
                    things = [(number, f'b{wire + 1}') for wire in range(book.wires)] + [(number, 'live'), (number, 'back')]
                    told = house.below(number) | house.above(number - 1)
                    for one, other in itertools.product(range(len(things)), repeat=2):
                        self.assertIs((one, other) in told, slow.joined(things[one], things[other]))

    def test_a_link_more(self):
        lots = random.Random(18)
        for book in BOOKS:
            kind = book.order[0][0]
            number = book.text.split('\n').index(f'kind {kind}') + 1
            more = book.put(number, f"kind {kind}\n  link {' '.join(lots.sample(points_of(book, kind), 2))}")
            landings = drawn_landings(book, lots, 3)
            one, other = House(book, landings), House(more, landings)
            places = [(number, point) for number, (name, _) in enumerate(landings) for point in points_of(book, name)]
            for pair in lots.choices(list(itertools.combinations(places, 2)), k=60):
                self.assertLessEqual(one.joined(*pair), other.joined(*pair))
            self.assertTrue(one.below(len(one) - 1).within(other.below(len(one) - 1)))


def exchanged(text):
    """The text of a book or a rule with other names of kinds, switches, lamps and inner points."""
    names = {'k': 'm', 'm': 'zz', 'out': 'k', 's': 'y', 't': 'x', 'u': 's', 'v': 'w', 'x': 'abc', 'y': 'q', 'even': 'odd', 'odd': 'even'}
    return '\n'.join(' '.join(names.get(word.rstrip('*'), word.rstrip('*')) + '*' * word.count('*') for word in line.split(' '))
                     for line in text.split('\n'))


class NamesTest(unittest.TestCase):

    def test_names_exchanged(self):
        for book in BOOKS[3:]:
            other = Book(exchanged(book.text))
            kinds = dict(zip(book.kinds, other.kinds))
            self.assertEqual(standings(book), standings(other))
            self.assertEqual(needless(book), needless(other))
            lamps = list(zip(lamp_pairs(book), lamp_pairs(other)))
            switches = list(zip(switch_pairs(book), switch_pairs(other)))
            for (one, two), word in itertools.product(lamps, FOUND):
                found, told = can(book, ('lamp', *one, word)), can(other, ('lamp', *two, word))
                self.assertEqual([found[0], len(found[1])], [told[0], len(told[1])])
            for (one, two), (mine, yours) in itertools.product(lamps, switches):
                self.assertEqual(effect(book, mine, one)[0], effect(other, yours, two)[0])
            for rule in (odd(book), ~odd(book), Rule('begin a\na k 0 b\nb m 1 a\nlit b')):
                for one, two in lamps:
                    found, told = keeps(book, *one, rule), keeps(other, *two, Rule(exchanged(rule.text)))
                    self.assertEqual([found[0], len(found[1])], [told[0], len(told[1])])
            self.check_houses(book, other, kinds)

    def check_houses(self, book, other, kinds):
        """Check what houses, counts and choices tell by other names."""
        lots = random.Random(19)
        for _ in range(3):
            landings = drawn_landings(book, lots, 3)
            named = tuple((kinds[kind], position) for kind, position in landings)
            one, two = House(book, landings), House(other, named)
            self.assertEqual([number for number, _ in one.lit], [number for number, _ in two.lit])
            names = [tuple(kind for kind, _ in some) for some in (landings, named)]
            self.assertEqual(shorts(book, names[0]), shorts(other, names[1]))
            for number, kind in enumerate(names[0]):
                self.assertEqual(one.below(number), two.below(number))
                for lamp, called in zip(book.lamps(kind), other.lamps(kinds[kind])):
                    self.assertEqual(one.word(number, lamp), two.word(number, called))
                    for word in FOUND:
                        self.assertEqual(many(book, names[0], number, lamp, word), many(other, names[1], number, called, word))
        changed = redrawn(book, random.Random(20))
        if [changed.lamps(kind) for kind, _ in book.order] == [book.lamps(kind) for kind, _ in book.order] and [
                changed.switches(kind) for kind, _ in book.order] == [book.switches(kind) for kind, _ in book.order]:
            found, told = alike(book, changed), alike(other, Book(exchanged(changed.text)))
            self.assertEqual([found[0], len(found[1])], [told[0], len(told[1])])
            found, told = parting((book, changed)), parting((other, Book(exchanged(changed.text))))
            self.assertEqual([found[0], len(found)], [told[0], len(told)])
        offers = tuple(sorted((number, line, 1 + number % 3) for number, line in enumerate(changed.text.split('\n'), 1)
                              if line != book[number]))[:4]
        if offers:
            wish = ('never', ('joined', 'k', 'b1', 'live'))
            found = cheapest(book, offers, (wish, ('never', ('short',))))
            told = cheapest(other, tuple(sorted((number, exchanged(text), price) for number, text, price in offers)),
                            (('never', ('joined', 'm', 'b1', 'live')), ('never', ('short',))))
            self.assertEqual([found[0], len(found[-1])], [told[0], len(told[-1])])

    def test_upside_down(self):
        for book in BOOKS:
            lots = random.Random(21)
            for pair in lamp_pairs(book):
                for word in FOUND:
                    found, told = can(book, ('lamp', *pair, word)), can(~book, ('lamp', *pair, word))
                    self.assertEqual(found[0], told[0])
                    self.assertEqual(found[0] == 'never' or len(found[1]) == len(told[1]), True)
                for mine in switch_pairs(book):
                    self.assertEqual(effect(book, mine, pair)[0], effect(~book, mine, pair)[0])
            landings = drawn_landings(book, lots, 4)
            one, other = House(book, landings), House(~book, landings[::-1])
            last = len(landings) - 1
            self.assertEqual(~one, other)
            self.assertEqual(sorted((last - number, lamp) for number, lamp in one.lit), sorted(other.lit))
            self.assertEqual(shorts(book, tuple(kind for kind, _ in landings)), shorts(~book, tuple(kind for kind, _ in landings[::-1])))


class AgainTest(unittest.TestCase):

    def test_equal_calls_with_calls_of_other_books_between_them(self):
        lots = random.Random(22)
        cases = [(book, drawn_landings(book, lots, 3)) for book in BOOKS[:9]]
        first = [asked_of(*case) for case in cases]
        lots.shuffle(cases)
        again = {book.text: asked_of(Book(book.text), tuple(list(landings))) for book, landings in cases}
        self.assertEqual(first, [again[book.text] for book in BOOKS[:9]])

    def test_shown_after_others(self):
        book, other = Book(HALL), Book(OLD)
        told = [can(book, ('short',)), effect(book, ('foot', 's'), ('foot', 'l')), alike(book, book), parting((book, book)),
                keeps(book, 'foot', 'l', ~odd(book))]
        asked_of(other, (('foot', (0,)), ('head', (1,))))
        right = [shows_can(Book(HALL), ('short',), told[0]), shows_effect(Book(HALL), ('foot', 's'), ('foot', 'l'), told[1]),
                 shows_alike(Book(HALL), Book(HALL), told[2]), shows_parting((Book(HALL),) * 2, told[3]),
                 shows_keeps(Book(HALL), 'foot', 'l', ~odd(Book(HALL)), told[4])]
        self.assertEqual(right, [True] * 5)

    def test_returned_sequences_are_tuples(self):
        def check(value):
            self.assertNotIsInstance(value, (list, dict, set))
            if isinstance(value, tuple):
                for part in value:
                    check(part)

        for book in BOOKS[:8]:
            for told in asked_of(book, drawn_landings(book, random.Random(23), 3)):
                for value in told if isinstance(told, list) else [told]:
                    check(value)


class LiveTest(unittest.TestCase):

    def ask(self, stair):
        """What all functions tell of the book and the landings of a stair."""
        return asked_of(stair.book, stair.landings) if stair.is_house else standings(stair.book)

    def test_functions_ahead_of_and_behind_deeds(self):
        lots = random.Random(24)
        for book in [Book(OLD), Book(HALL), BOOKS[5], BOOKS[12]]:
            stair = Stair(book)
            for kind, position in drawn_landings(book, lots, 3):
                stair.add(kind, position)
            ahead, done = self.ask(stair), stair.done
            with stair.trial():
                stair.take()
                self.ask(stair)
                stair.change(book.put(2, book[2] + '\n  link live b1'))
                stair.undo()
                stair.undo()
                self.assertEqual(self.ask(stair), ahead)
                number = lots.randrange(len(stair))
                for switch in stair.book.switches(stair[number][0]):
                    stair.turn(number, switch)
                    self.assertEqual(self.ask(stair), asked_of(book, stair.landings))
            self.assertEqual([self.ask(stair), stair.done], [ahead, done])
            more = book.put(2, book[2] + '\n  link live back')
            stair.tried(lambda held: held.change(more), keep=True)
            self.assertEqual(self.ask(stair), asked_of(more, stair.landings))
            self.assertEqual([stair.lit, can(stair.book, ('short',))[0]], [(), 'can'])
            stair.undo()
            self.assertEqual(self.ask(stair), ahead)

    def test_what_a_stair_tells_is_shown(self):
        stair = Stair(Book(HALL))
        for kind in ('foot', 'stair', 'stair', 'head'):
            stair.add(kind, (1,))
            if stair.is_house:
                house = House(stair.book, stair.landings)
                for number in range(len(stair)):
                    self.assertEqual(burns(house, number, 'l')[0], stair.word(number, 'l'))
                    self.assertIs(shows_burns(house, number, 'l', burns(house, number, 'l')), True)
        self.assertEqual(fitting((stair.book,), ((stair.landings, stair.lit),)), (0,))


if __name__ == '__main__':
    unittest.main()
