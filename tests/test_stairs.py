"""Points 2, 3 and 15: a stair is at each moment where its deeds led."""

import random
import re
import unittest

from landingwires.books import Book
from landingwires.errors import (BadPosition, Empty, NoKind, NoLamp, NoLanding, NoRoom, NoSwitch, NothingToRedo,
                                 NothingToUndo, NoTrial, Unlike, WireError)
from landingwires.houses import House
from landingwires.stairs import Stair, read_stair
from samples import (HALL, MIXED, OLD, SMALL, SlowHouse, all_positions, any_values, check_raises, lots_of_books, redrawn,
                     slow_turned)

STARS = Book('wires 2\nkind a\n  switch s live a1\n  lamp l b1 back\nkind b\n  link b1 a1\n  lamp m a1 back\nkind c\n'
             '  turn s b1 a1 a2\n  turn t back b2 live\n  lamp n b1 b2\nkind out\n  switch s b1 a1\nhouse a* b c* a*')


def pattern(book, whole):
    """What the kinds of a house, or of its lowest landings, look like, each with a blank behind it."""
    if whole:
        return ''.join(f'(?:{kind} ){"*" if starred else ""}' for kind, starred in book.order)
    found = ''
    for kind, starred in reversed(book.order):
        found = f'(?:(?:{kind} ){"*" if starred else ""}{found})?'
    return found


def looks_so(book, landings, whole):
    """Whether landings are those of a house, or the lowest ones of a house."""
    return re.fullmatch(pattern(book, whole), ''.join(kind + ' ' for kind, _ in landings)) is not None


class Hand:
    """A stair that is kept by hand: a book and a plain list of landings, and all that stood ahead."""

    def __init__(self, book):
        self.book, self.landings, self.past, self.future = book, [], [], []

    def do(self, line, book, landings):
        self.past.append((line, self.book, self.landings))
        self.future = []
        self.book, self.landings = book, list(landings)

    def undo(self):
        line, book, landings = self.past.pop()
        self.future.append((line, self.book, self.landings))
        self.book, self.landings = book, landings

    def redo(self):
        line, book, landings = self.future.pop()
        self.past.append((line, self.book, self.landings))
        self.book, self.landings = book, landings

    def all(self):
        return self.book, list(self.landings), list(self.past), list(self.future)

    def set(self, told):
        self.book, self.landings, self.past, self.future = told


def sign(position):
    """A position as it is written."""
    return ''.join(map(str, position)) or '-'


class StairCase(unittest.TestCase):

    def check(self, stair, hand):
        """Check all that a stair tells against what is kept by hand."""
        landings = tuple(hand.landings)
        self.assertEqual([stair.book, stair.landings, len(stair), stair.done],
                         [hand.book, landings, len(landings), len(hand.past)])
        self.assertEqual(stair.landings.__class__, tuple)
        slow = SlowHouse(hand.book, landings)
        self.assertEqual(stair.lit, slow.lit() if landings else ())
        for number, (kind, position) in enumerate(landings):
            self.assertEqual(stair[number], (kind, position))
            for lamp in hand.book.lamps(kind):
                self.assertEqual(stair.word(number, lamp), slow.word(number, lamp))
        self.assertIs(stair.is_house, bool(landings) and looks_so(hand.book, landings, True))
        self.assertEqual(stair.journal, tuple(line for line, _, _ in hand.past))
        if stair.is_house:
            self.assertEqual(House(stair.book, stair.landings).lit, stair.lit)


class DrivenTest(StairCase):

    def deed(self, stair, hand, lots):
        """Do one deed by lot, or one that is refused, with both."""
        book, landings = hand.book, hand.landings
        form = lots.choice(('add', 'add', 'add', 'add', 'take', 'turn', 'set', 'set', 'change', 'undo', 'undo', 'redo'))
        number = lots.randrange(-1, len(landings) + 1) if lots.random() < 0.2 or not landings else lots.randrange(len(landings))
        inside = 0 <= number < len(landings)
        if form == 'add':
            kind = lots.choice(book.kinds)
            position = lots.choice(all_positions(book, kind))
            if looks_so(book, [*landings, (kind, position)], False) and len(landings) < 60:
                self.assertIsNone(stair.add(kind, position))
                hand.do(f'add {kind} {sign(position)}', book, [*landings, (kind, position)])
            else:
                check_raises(self, NoRoom, kind, stair.add, kind, position)
        elif form == 'take':
            if landings:
                self.assertIsNone(stair.take())
                hand.do('take', book, landings[:-1])
            else:
                check_raises(self, Empty, None, stair.take)
        elif form in ('turn', 'set') and not inside:
            if form == 'turn':
                check_raises(self, NoLanding, number, stair.turn, number, 's')
            else:
                check_raises(self, NoLanding, number, stair.__setitem__, number, (0,))
        elif form == 'turn':
            switch = lots.choice((*book.switches(landings[number][0]), 'q'))
            if switch != 'q':
                self.assertIsNone(stair.turn(number, switch))
                hand.do(f'turn {number} {switch}', book, slow_turned(book, tuple(landings), number, switch))
            else:
                check_raises(self, NoSwitch, switch, stair.turn, number, switch)
        elif form == 'set':
            kind = landings[number][0]
            position = lots.choice(all_positions(book, kind))
            stair[number] = position
            hand.do(f'set {number} {sign(position)}', book, [*landings[:number], (kind, position), *landings[number + 1:]])
        elif form == 'change':
            other = redrawn(book, lots)
            if [(other.switches(kind), other.lamps(kind)) for kind, _ in book.order] == [
                    (book.switches(kind), book.lamps(kind)) for kind, _ in book.order]:
                self.assertIsNone(stair.change(other))
                hand.do('change ' + other.text.replace('\n', '/'), other, landings)
            else:
                check_raises(self, Unlike, other, stair.change, other)
        elif form == 'undo':
            if hand.past:
                self.assertIsNone(stair.undo())
                hand.undo()
            else:
                check_raises(self, NothingToUndo, None, stair.undo)
        elif hand.future:
            self.assertIsNone(stair.redo())
            hand.redo()
        else:
            check_raises(self, NothingToRedo, None, stair.redo)

    def drive(self, stair, hand, lots, many, depth):
        """Drive both for a while, blocks inside of blocks."""
        for _ in range(many):
            self.deed(stair, hand, lots)
            self.check(stair, hand)
            if depth and lots.random() < 0.15:
                self.drive_block(stair, hand, lots, depth)
                self.check(stair, hand)

    def drive_block(self, stair, hand, lots, depth):
        """Drive both within a block that is left in one of all ways."""
        ahead, way = hand.all(), lots.choice(('left', 'kept', 'error', 'kept and error'))
        try:
            with stair.trial() as held:
                self.assertIs(held, stair)
                self.drive(stair, hand, lots, 3, depth - 1)
                if 'kept' in way:
                    self.assertIsNone(stair.keep())
                    self.drive(stair, hand, lots, 2, 0)
                if 'error' in way:
                    raise KeyError(way)
        except KeyError:
            self.assertIn('error', way)
        if way != 'kept':
            hand.set(ahead)

    def test_by_lot_beside_a_plain_list(self):
        for seed, book in enumerate([Book(HALL), Book(OLD), STARS, Book(MIXED), *lots_of_books(1, 8, 14), *lots_of_books(2, 4, 14)]):
            lots = random.Random(seed)
            stair, hand = Stair(book), Hand(book)
            self.check(stair, hand)
            self.drive(stair, hand, lots, 60, 3)
            self.assertEqual(read_stair(book, stair.journal), stair)
            while hand.past:
                stair.undo()
                hand.undo()
                self.check(stair, hand)
            self.assertEqual([stair.landings, stair.book], [(), book])
            while hand.future:
                stair.redo()
                hand.redo()
                self.check(stair, hand)


class DeedsTest(StairCase):

    def test_at_first(self):
        stair = Stair(book=Book(HALL))
        self.assertEqual([stair.book, stair.landings, stair.is_house, stair.done, stair.lit, len(stair), stair.journal],
                         [Book(HALL), (), False, 0, (), 0, ()])
        self.assertIs(Stair(Book('wires 1\nkind a\nhouse a*')).is_house, False)

    def test_add(self):
        stair = Stair(Book(HALL))
        for value in any_values():
            if value != 'foot':
                check_raises(self, NoKind, value, stair.add, value, (0,))
                check_raises(self, NoKind, value, stair.add, position=None, kind=value)
            if value != (0,):
                check_raises(self, BadPosition, value, stair.add, 'foot', value)
                check_raises(self, BadPosition, value, stair.add, 'head', value)
        check_raises(self, NoRoom, 'stair', stair.add, 'stair', (0,))
        check_raises(self, NoRoom, 'head', stair.add, position=(1,), kind='head')
        self.assertEqual([stair.done, stair.landings], [0, ()])
        stair.add(position=(1,), kind='foot')
        check_raises(self, NoRoom, 'foot', stair.add, 'foot', (1,))
        check_raises(self, BadPosition, (0, 0), stair.add, 'foot', (0, 0))
        stair.add('head', (0,))
        for kind in ('foot', 'stair', 'head'):
            check_raises(self, NoRoom, kind, stair.add, kind, (0,))
        self.assertEqual([stair.landings, stair.journal], [(('foot', (1,)), ('head', (0,))), ('add foot 1', 'add head 0')])

    def test_starred_items_are_left_out(self):
        for kinds, whole in (('b', True), ('a', False), ('a a', False), ('a b', True), ('b c', True), ('b a', True), ('b c a', True),
                             ('a b c c a a', True), ('b a a', True)):
            stair = Stair(STARS)
            for kind in kinds.split():
                stair.add(kind, (0,) * len(STARS.switches(kind)))
            self.assertIs(stair.is_house, whole, kinds)
        for kinds, kind in (('', 'c'), ('a', 'c'), ('b', 'b'), ('b a', 'c'), ('b a', 'b'), ('b c a', 'c'), ('', 'out'), ('a b', 'out')):
            stair = Stair(STARS)
            for told in kinds.split():
                stair.add(told, (0,) * len(STARS.switches(told)))
            check_raises(self, NoRoom, kind, stair.add, kind, (0,) * len(STARS.switches(kind)))

    def test_sixty_landings_and_one_more(self):
        stair = Stair(Book(SMALL))
        for _ in range(60):
            stair.add('foot', (1,))
        self.assertEqual([len(stair), stair.done, stair.is_house], [60, 60, True])
        check_raises(self, NoRoom, 'foot', stair.add, 'foot', (1,))
        check_raises(self, NoKind, 'top', stair.add, 'top', (1,))
        check_raises(self, BadPosition, (), stair.add, 'foot', ())
        stair.take()
        stair.add('foot', (0,))
        check_raises(self, NoRoom, 'foot', stair.add, 'foot', (1,))
        self.assertEqual([len(stair), stair.done], [60, 62])

    def test_take(self):
        stair = Stair(Book(HALL))
        check_raises(self, Empty, None, stair.take)
        stair.add('foot', (0,))
        stair.add('stair', (1,))
        self.assertIsNone(stair.take())
        self.assertEqual([stair.landings, stair.done], [(('foot', (0,)),), 3])
        stair.take()
        check_raises(self, Empty, None, stair.take)
        stair.add('foot', (1,))
        self.assertEqual(stair.journal, ('add foot 0', 'add stair 1', 'take', 'take', 'add foot 1'))

    def stair(self, text=MIXED):
        """A stair with some landings."""
        stair = Stair(Book(text))
        for kind, position in (('low', (0, 0)), ('mid', (0, 1, 0)), ('top', ()), ('low', (1, 1))):
            stair.add(kind, position)
        return stair

    def test_turn(self):
        stair = self.stair()
        for number, switch, position in ((0, 't', (0, 1)), (0, 't', (0, 0)), (1, 'u', (0, 1, 1)), (1, 's', (1, 1, 1)), (3, 's', (0, 1))):
            self.assertIsNone(stair.turn(number, switch))
            self.assertEqual(stair[number][1], position)
            self.assertEqual(stair.journal[-1], f'turn {number} {switch}')
        stair.turn(switch='s', number=0)
        self.assertEqual(stair[0], ('low', (1, 0)))
        done = stair.done
        for value in [*any_values(), 4, -4]:
            if value.__class__ is not int or not 0 <= value < 4:
                check_raises(self, NoLanding, value, stair.turn, value, 's')
                check_raises(self, NoLanding, value, stair.turn, switch=None, number=value)
            check_raises(self, NoSwitch, value, stair.turn, 0, value)
        for number, switch in ((0, 'u'), (2, 's'), (0, 'l'), (0, 'low'), (1, 'S')):
            check_raises(self, NoSwitch, switch, stair.turn, number, switch)
        self.assertEqual(stair.done, done)

    def test_set(self):
        stair = self.stair()
        stair[1] = (1, 0, 1)
        stair[1] = (1, 0, 1)
        stair[2] = ()
        self.assertEqual([stair[1], stair[2], stair.done], [('mid', (1, 0, 1)), ('top', ()), 7])
        self.assertEqual(stair.journal[-3:], ('set 1 101', 'set 1 101', 'set 2 -'))
        for value in [*any_values(), 4, -1, -4]:
            if value.__class__ is not int or not 0 <= value < 4:
                check_raises(self, NoLanding, value, stair.__setitem__, value, (0, 0))
                check_raises(self, NoLanding, value, stair.__setitem__, value, None)
                check_raises(self, NoLanding, value, stair.__getitem__, value)
            if value != (0, 1):
                check_raises(self, BadPosition, value, stair.__setitem__, 0, value)
            if value != ():
                check_raises(self, BadPosition, value, stair.__setitem__, 2, value)
        for value in ((0,), (0, 0, 0), (0, 2), (0, True), [0, 0], '00', 'low', ('low', (0, 0))):
            check_raises(self, BadPosition, value, stair.__setitem__, 0, value)
        self.assertEqual(stair.done, 7)

    def test_items(self):
        stair = self.stair()
        self.assertEqual([stair[number] for number in range(4)], list(stair.landings))
        for number in (4, -1, True, False, None, '0', slice(0, 2)):
            with self.assertRaises(NoLanding):
                stair[number]
        with self.assertRaises(TypeError):
            list(stair)

    def test_words_and_lit(self):
        stair = self.stair()
        for value in [*any_values(), 4, -1]:
            if value.__class__ is not int or not 0 <= value < 4:
                check_raises(self, NoLanding, value, stair.word, value, 'l')
                check_raises(self, NoLanding, value, stair.word, lamp=[], number=value)
            check_raises(self, NoLamp, value, stair.word, 0, value)
        check_raises(self, NoLamp, 'l', stair.word, 1, 'l')
        self.assertEqual(stair.word(lamp='l', number=0), SlowHouse(stair.book, stair.landings).word(0, 'l'))
        check_raises(self, NoLanding, 0, Stair(Book(HALL)).word, 0, 'l')

    def test_the_wires_above_the_last_one_lead_nowhere(self):
        stair = Stair(Book(HALL))
        stair.add('foot', (0,))
        self.assertEqual([stair.lit, stair.word(0, 'l'), stair.is_house], [(), 'dark', False])
        stair.add('stair', (0,))
        self.assertEqual([stair.lit, stair.is_house], [(), False])
        stair.add('head', (0,))
        self.assertEqual([stair.lit, stair.is_house], [((0, 'l'), (1, 'l'), (2, 'l')), True])
        self.assertEqual(stair.lit, House(stair.book, stair.landings).lit)
        stair.take()
        self.assertEqual(stair.lit, ())
        single = Stair(Book('wires 1\nkind a\n  link live a1\n  lamp l a1 back\n  lamp k back a1\nkind b\n  link b1 back\nhouse a b'))
        single.add('a', ())
        self.assertEqual([single.lit, single.word(0, 'l')], [((0, 'l'), (0, 'k')), 'lit'])
        single.add('b', ())
        self.assertEqual([single.lit, single.word(0, 'l'), single.is_house], [(), 'short', True])

    def test_equal_by_book_and_landings(self):
        one, other = self.stair(), self.stair()
        self.assertIs(one == other, True)
        self.assertIs(one != other, False)
        other.turn(0, 's')
        self.assertIs(one == other, False)
        other.turn(0, 's')
        self.assertIs(one == other, True)
        self.assertNotEqual(one.journal, other.journal)
        other.change(other.book.put(3, '  switch s a1 live'))
        self.assertIs(one != other, True)
        self.assertIs(Stair(Book(OLD)) == Stair(Book(HALL)), False)
        self.assertIs(Stair(Book(OLD)) == Stair(Book(OLD)), True)
        for value in [*any_values(), one.landings, House(Book(SMALL), (('foot', (0,)),))]:
            self.assertIs(one == value, False)
            self.assertIs(one != value, True)

    def test_what_was_told_stays(self):
        stair = self.stair()
        landings, journal, lit = stair.landings, stair.journal, stair.lit
        told = [landings, journal, lit, stair[1]]
        stair[1] = (1, 1, 1)
        stair.take()
        self.assertEqual(told, [self.stair().landings, self.stair().journal, self.stair().lit, ('mid', (0, 1, 0))])


class ChangeTest(StairCase):

    def test_to_a_book_of_one_form(self):
        stair = Stair(Book(HALL))
        for kind in ('foot', 'stair', 'head'):
            stair.add(kind, (0,))
        other = Book(HALL).put(6, '  cross s b1 a2 b2 a1')
        self.assertIsNone(stair.change(other))
        self.assertEqual([stair.book, stair.lit, stair.done, len(stair)], [other, House(other, stair.landings).lit, 4, 3])
        self.assertEqual(stair.lit, ())
        self.assertEqual(stair.journal[3], 'change ' + other.text.replace('\n', '/'))
        stair.undo()
        self.assertEqual([stair.book, len(stair.lit)], [Book(HALL), 3])
        stair.redo()
        self.assertEqual([stair.book, stair.lit], [other, ()])
        stair.change(other=Book(HALL))
        stair.change(Book(HALL))
        self.assertEqual([stair.done, len(stair.lit)], [6, 3])

    def test_to_other_values(self):
        stair = Stair(Book(HALL))
        stair.add('foot', (0,))
        for value in [*any_values(), HALL, stair, Book(OLD), Book(HALL).put(12, 'house foot stair head'),
                      Book(HALL).put(4, '  lamp m a3 back'), Book(HALL).put(4, ''), Book(HALL).put(3, '  turn t live a1 a2')]:
            check_raises(self, Unlike, value, stair.change, value)
            check_raises(self, Unlike, value, stair.change, other=value)
        self.assertEqual([stair.done, stair.book], [1, Book(HALL)])

    def test_what_is_told_of_kinds_goes_by_it(self):
        one = Book(HALL.replace('house', 'kind cellar\n  switch s b1 a1\nhouse'))
        other = Book(HALL.replace('house', 'kind attic\nhouse'))
        stair = Stair(one)
        check_raises(self, NoRoom, 'cellar', stair.add, 'cellar', (0,))
        check_raises(self, NoKind, 'attic', stair.add, 'attic', ())
        stair.change(other)
        check_raises(self, NoKind, 'cellar', stair.add, 'cellar', (0,))
        check_raises(self, NoRoom, 'attic', stair.add, 'attic', ())
        check_raises(self, BadPosition, (0,), stair.add, 'attic', (0,))
        stair.change(Book(HALL))
        check_raises(self, NoKind, 'attic', stair.add, 'attic', ())
        stair.undo()
        stair.undo()
        check_raises(self, NoRoom, 'cellar', stair.add, 'cellar', (0,))

    def test_to_a_book_of_other_wires(self):
        stair = Stair(Book(HALL))
        for kind in ('foot', 'head'):
            stair.add(kind, (1,))
        stair.change(Book(HALL).put(1, 'wires 4'))
        self.assertEqual([stair.book.wires, len(stair.lit)], [4, 2])


class UndoTest(StairCase):

    def stair(self):
        """A stair to which deeds of all forms were done, and what stood behind each."""
        stair, seen = Stair(Book(HALL)), [(Book(HALL), ())]
        other = Book(HALL).put(6, '  cross s b1 a2 b2 a1')
        for deed in (lambda: stair.add('foot', (0,)), lambda: stair.add('stair', (1,)), lambda: stair.turn(1, 's'),
                     lambda: stair.__setitem__(0, (0,)), lambda: stair.change(other), stair.take, lambda: stair.add('head', (1,))):
            deed()
            seen.append((stair.book, stair.landings))
        return stair, seen

    def test_through_all_of_them(self):
        stair, seen = self.stair()
        journal = stair.journal
        self.assertEqual(stair.done, 7)
        for _ in range(2):
            for done in range(6, -1, -1):
                self.assertIsNone(stair.undo())
                self.assertEqual([stair.done, (stair.book, stair.landings), stair.journal], [done, seen[done], journal[:done]])
            check_raises(self, NothingToUndo, None, stair.undo)
            for done in range(1, 8):
                self.assertIsNone(stair.redo())
                self.assertEqual([stair.done, (stair.book, stair.landings), stair.journal], [done, seen[done], journal[:done]])
            check_raises(self, NothingToRedo, None, stair.redo)

    def test_redo_is_gone_after_another_deed(self):
        for deed in (lambda stair: stair.add('stair', (0,)), lambda stair: stair.take(), lambda stair: stair.turn(0, 's'),
                     lambda stair: stair.__setitem__(0, (0,)), lambda stair: stair.change(Book(HALL))):
            stair, seen = self.stair()
            for _ in range(6):
                stair.undo()
            deed(stair)
            check_raises(self, NothingToRedo, None, stair.redo)
            stair.undo()
            self.assertEqual((stair.book, stair.landings), seen[1])
            stair.redo()
            check_raises(self, NothingToRedo, None, stair.redo)

    def test_redo_is_not_gone_after_one_that_was_refused(self):
        stair, seen = self.stair()
        for _ in range(5):
            stair.undo()
        for deed in (lambda: stair.add('none', ()), lambda: stair.add('foot', (0,)), lambda: stair.turn(9, 's'), lambda: stair.turn(0, 'q'),
                     lambda: stair.__setitem__(0, ()), lambda: stair.change(Book(OLD)), lambda: stair.word(9, 'l'), stair.keep):
            with self.assertRaises(WireError):
                deed()
            self.assertEqual([stair.done, (stair.book, stair.landings)], [2, seen[2]])
        for done in range(3, 8):
            stair.redo()
            self.assertEqual((stair.book, stair.landings), seen[done])

    def test_looking_is_no_deed(self):
        stair, _ = self.stair()
        stair.undo()
        self.assertEqual([stair.lit, len(stair), stair.is_house, stair == stair.copy(), stair.journal[0]], [(), 1, False, True, 'add foot 0'])
        stair.redo()
        self.assertEqual(stair.done, 7)

    def test_nothing_at_first(self):
        stair = Stair(Book(HALL))
        check_raises(self, NothingToUndo, None, stair.undo)
        check_raises(self, NothingToRedo, None, stair.redo)
        stair.add('foot', (0,))
        check_raises(self, NothingToRedo, None, stair.redo)


if __name__ == '__main__':
    unittest.main()
