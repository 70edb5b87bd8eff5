"""Points 2, 3 and 15: trials that leave nothing unless they are kept, copies and journals of a stair."""

import unittest

from landingwires.books import Book
from landingwires.errors import (BadJournal, NoLanding, NoRoom, NothingToRedo, NothingToUndo, NoTrial, WireError)
from landingwires.stairs import Stair, read_stair
from samples import HALL, MIXED, OLD, SMALL, any_values, check_raises

OTHER = Book(HALL).put(6, '  cross s b1 a2 b2 a1')


def hall_stair(*kinds):
    """A stair of the hall with these landings, all of them in 0."""
    stair = Stair(Book(HALL))
    for kind in kinds or ('foot', 'stair', 'head'):
        stair.add(kind, (0,))
    return stair


def all_of(stair):
    """All that a stair tells, also what can be undone and done again."""
    found = [stair.book, stair.landings, stair.done, stair.journal, stair.lit, stair.is_house]
    copy = stair.copy()
    while True:
        try:
            copy.redo()
        except NothingToRedo:
            break
    found.append(copy.journal)
    while copy.done:
        copy.undo()
        found.append((copy.book, copy.landings))
    return found


class TrialTest(unittest.TestCase):

    def test_left(self):
        stair = hall_stair()
        stair.turn(0, 's')
        stair.undo()
        ahead = all_of(stair)
        with stair.trial() as held:
            self.assertIs(held, stair)
            self.assertEqual(all_of(stair), ahead)
            held.turn(1, 's')
            held[0] = (1,)
            held.take()
            held.change(OTHER)
            self.assertEqual([stair.done, len(stair), stair.book], [7, 2, OTHER])
        self.assertEqual(all_of(stair), ahead)
        stair.redo()
        self.assertEqual(stair.journal[-1], 'turn 0 s')

    def test_kept(self):
        stair = hall_stair()
        with stair.trial() as held:
            held.turn(1, 's')
            self.assertIsNone(stair.keep())
            held.take()
        self.assertEqual([stair.landings, stair.done], [(('foot', (0,)), ('stair', (1,))), 5])
        stair.undo()
        stair.undo()
        self.assertEqual(stair, hall_stair())
        with stair.trial():
            stair.keep()
        with stair.trial():
            stair.keep()
            stair.keep()
            stair.redo()
        self.assertEqual(stair.done, 4)

    def test_an_error_inside(self):
        for keep in (False, True):
            stair = hall_stair()
            stair.undo()
            ahead = all_of(stair)
            for error in (KeyError('told'), NoRoom('foot'), SystemExit(1)):
                with self.assertRaises(error.__class__) as caught:
                    with stair.trial() as held:
                        held.turn(1, 's')
                        if keep:
                            stair.keep()
                        raise error
                self.assertIs(caught.exception, error)
                self.assertEqual(all_of(stair), ahead)
                check_raises(self, NoTrial, None, stair.keep)

    def test_an_error_that_stays_inside(self):
        stair = hall_stair()
        with stair.trial() as held:
            held.turn(1, 's')
            check_raises(self, NoLanding, 9, held.turn, 9, 's')
            stair.keep()
        self.assertEqual(stair.done, 4)

    def test_nested(self):
        for outer in (False, True):
            for inner in (False, True):
                stair = hall_stair()
                with stair.trial():
                    stair.turn(0, 's')
                    with stair.trial():
                        stair.turn(1, 's')
                        with stair.trial():
                            stair.turn(2, 's')
                            self.assertEqual(stair.done, 6)
                        self.assertEqual(stair.done, 5)
                        if inner:
                            stair.keep()
                    self.assertEqual(stair.done, 5 if inner else 4)
                    if outer:
                        stair.keep()
                self.assertEqual(stair.done, (5 if inner else 4) if outer else 3)
                check_raises(self, NoTrial, None, stair.keep)

    def test_keep_belongs_to_the_innermost_block(self):
        stair = hall_stair()
        with stair.trial():
            stair.turn(0, 's')
            stair.keep()
            with stair.trial():
                stair.turn(1, 's')
        self.assertEqual(stair.journal[3:], ('turn 0 s',))
        with self.assertRaises(KeyError):
            with stair.trial():
                with stair.trial():
                    stair.turn(2, 's')
                    stair.keep()
                self.assertEqual(stair.done, 5)
                raise KeyError
        self.assertEqual(stair.done, 4)

    def test_outside_of_blocks(self):
        stair = hall_stair()
        check_raises(self, NoTrial, None, stair.keep)
        block = stair.trial()
        check_raises(self, NoTrial, None, stair.keep)
        stair.turn(0, 's')
        with block as held:
            self.assertEqual(held.done, 4)
            held.take()
        self.assertEqual(stair.done, 4)
        check_raises(self, NoTrial, None, stair.keep)

    def test_undo_and_redo_inside_of_what_was_done_ahead(self):
        stair = hall_stair()
        stair.undo()
        ahead = all_of(stair)
        with stair.trial():
            stair.redo()
            self.assertEqual(stair.done, 3)
            for _ in range(3):
                stair.undo()
            check_raises(self, NothingToUndo, None, stair.undo)
            stair.add('foot', (1,))
            check_raises(self, NothingToRedo, None, stair.redo)
        self.assertEqual(all_of(stair), ahead)
        with stair.trial():
            stair.undo()
            stair.undo()
            stair.keep()
        self.assertEqual(stair.landings, ())
        for _ in range(3):
            stair.redo()
        self.assertEqual(stair, hall_stair())

    def test_two_stairs_at_once(self):
        one, other = hall_stair(), hall_stair()
        with one.trial():
            check_raises(self, NoTrial, None, other.keep)
            with other.trial():
                one.turn(0, 's')
                other.turn(1, 's')
                one.keep()
        self.assertEqual([one.done, other.done], [4, 3])

    def test_in_a_block_left_by_return(self):
        stair = hall_stair()

        def look():
            with stair.trial() as held:
                held.turn(0, 's')
                return held.done

        self.assertEqual([look(), stair.done], [4, 3])


class TriedTest(unittest.TestCase):

    def test_what_look_returns(self):
        stair = hall_stair()
        for value in any_values():
            self.assertIs(stair.tried(lambda held, value=value: value), value)
        self.assertIs(stair.tried(lambda held: held), stair)
        self.assertEqual(stair.tried(look=lambda held: [held.turn(0, 's'), held.done]), [None, 4])
        self.assertEqual(stair.done, 3)

    def test_kept_if_keep_is_true(self):
        for value in [*any_values(), 1, 'True', (True,)]:
            stair = hall_stair()
            self.assertIsNone(stair.tried(lambda held: held.turn(0, 's'), keep=value))
            self.assertEqual(stair.done, 4 if value is True else 3, value)
        stair = hall_stair()
        stair.tried(keep=True, look=lambda held: held.take())
        self.assertEqual(stair, hall_stair('foot', 'stair'))
        with self.assertRaises(TypeError):
            stair.tried(lambda held: held.take(), True)
        self.assertEqual(stair.done, 4)

    def test_look_calls_keep(self):
        for keep in (True, False, None):
            stair = hall_stair()
            self.assertEqual(stair.tried(lambda held: [held.turn(0, 's'), held.keep(), held.take()], keep=keep), [None] * 3)
            self.assertEqual(stair.journal[3:], ('turn 0 s', 'take'))

    def test_look_raises(self):
        for keep in (True, False):
            stair = hall_stair()
            ahead = all_of(stair)

            def look(held):
                held.turn(0, 's')
                held.keep()
                held.turn(9, 's')

            check_raises(self, NoLanding, 9, stair.tried, look, keep=keep)
            self.assertEqual(all_of(stair), ahead)

    def test_inside_of_another(self):
        stair = hall_stair()
        with stair.trial():
            stair.tried(lambda held: held.turn(0, 's'), keep=True)
            self.assertEqual(stair.done, 4)
        self.assertEqual(stair.done, 3)
        stair.tried(lambda held: held.tried(lambda inner: inner.turn(0, 's'), keep=True))
        self.assertEqual(stair.done, 3)
        stair.tried(lambda held: held.tried(lambda inner: inner.turn(0, 's')), keep=True)
        self.assertEqual(stair.done, 3)
        stair.tried(lambda held: held.tried(lambda inner: inner.turn(0, 's'), keep=True), keep=True)
        self.assertEqual(stair.done, 4)


class CopyTest(unittest.TestCase):

    def test_alike_in_all_things(self):
        stair = hall_stair()
        stair.change(OTHER)
        stair.undo()
        stair.undo()
        other = stair.copy()
        self.assertIsNot(other, stair)
        self.assertEqual(all_of(other), all_of(stair))
        self.assertEqual(other, stair)
        self.assertIs(other.__class__, Stair)

    def test_independent(self):
        stair = hall_stair()
        stair.undo()
        ahead, other = all_of(stair), stair.copy()
        other.redo()
        other.turn(0, 's')
        other.change(OTHER)
        self.assertEqual(all_of(stair), ahead)
        told = all_of(other)
        stair.undo()
        stair.take()
        self.assertEqual(all_of(other), told)
        self.assertNotEqual(other, stair)

    def test_made_inside_of_a_block(self):
        stair = hall_stair()
        with stair.trial():
            stair.turn(0, 's')
            other = stair.copy()
            check_raises(self, NoTrial, None, other.keep)
            with other.trial():
                other.turn(1, 's')
                other.keep()
            stair.turn(2, 's')
        self.assertEqual([stair.done, other.journal[3:]], [3, ('turn 0 s', 'turn 1 s')])
        check_raises(self, NoTrial, None, other.keep)
        for _ in range(5):
            other.undo()
        self.assertEqual([other.landings, len(stair)], [(), 3])

    def test_copies_of_copies(self):
        stair = Stair(Book(SMALL))
        copies = []
        for number in range(5):
            stair.add('foot', (number % 2,))
            copies.append(stair.copy().copy())
        self.assertEqual([len(copy) for copy in copies], [1, 2, 3, 4, 5])
        self.assertTrue(all(copy.journal == stair.journal[:len(copy)] for copy in copies))


class JournalTest(unittest.TestCase):

    def stair(self):
        """A stair to which deeds of all forms were done."""
        stair = Stair(Book(MIXED))
        stair.add('low', (0, 1))
        stair.add('mid', (0, 1, 1))
        stair.add('top', ())
        stair.turn(1, 't')
        stair[2] = ()
        stair[0] = (1, 1)
        stair.change(Book(MIXED).put(3, '  turn s live a1 back'))
        stair.take()
        stair.undo()
        stair.turn(0, 's')
        return stair

    def test_each_form_of_line(self):
        self.assertEqual(self.stair().journal, (
            'add low 01', 'add mid 011', 'add top -', 'turn 1 t', 'set 2 -', 'set 0 11',
            'change ' + MIXED.replace('\n', '/').replace('switch s live a1', 'turn s live a1 back'), 'turn 0 s'))

    def test_read_back(self):
        for stair in (self.stair(), hall_stair(), Stair(Book(OLD))):
            lines = stair.journal
            first = Book(MIXED) if 'add low 01' in lines else stair.book
            other = read_stair(first, lines)
            self.assertEqual([other, other.journal, other.done, other.book], [stair, lines, len(lines), stair.book])
            self.assertEqual(read_stair(lines=lines, book=first).landings, stair.landings)
            check_raises(self, NothingToRedo, None, other.redo)
            check_raises(self, NoTrial, None, other.keep)
            for _ in lines:
                other.undo()
            self.assertEqual([other.book, other.landings], [first, ()])
            check_raises(self, NothingToUndo, None, other.undo)

    def test_parts_of_a_journal(self):
        lines = self.stair().journal
        for many in range(len(lines) + 1):
            self.assertEqual(read_stair(Book(MIXED), lines[:many]).journal, lines[:many])

    def check_bad(self, lines, number, book=HALL):
        with self.assertRaises(BadJournal) as caught:
            read_stair(Book(book), lines)
        self.assertEqual(caught.exception.value, number, lines)
        self.assertIs(caught.exception.value.__class__, int)

    def check_line(self, line):
        """Check that no journal has this line."""
        good = ('add foot 0', 'add stair 1')
        self.check_bad((line,), 1)
        self.check_bad((*good, line), 3)
        self.check_bad((*good, line, 'nonsense', None), 3)
        self.check_bad((good[0], line, *good[1:]), 2)

    def test_what_is_no_tuple(self):
        for value in any_values():
            if not isinstance(value, tuple):
                self.check_bad(value, 0)
        for lines in (['add foot 0'], 'add foot 0', {'add foot 0': 1}, None):
            self.check_bad(lines, 0)
        self.assertEqual(read_stair(Book(HALL), ()), Stair(Book(HALL)))

    def test_what_is_no_string(self):
        for value in any_values():
            self.check_line(value)

    def test_forms(self):
        for line in ('', ' ', 'add', 'add stair', 'add stair 0 0', 'add  stair 0', 'add stair  0', ' add stair 0', 'add stair 0 ', 'Add stair 0',
                     'adds stair 0', 'take 0', ' take', 'take ', 'TAKE', 'turn', 'turn 0', 'turn 0 s s', 'turn  0 s', 'turn 0  s', 'turn 0 s ',
                     'set', 'set 0', 'set 0 0 0', 'set  0 0', 'set 0 0 ', 'undo', 'redo', 'lit', 'word 0 l', 'can foot l lit',
                     'does foot s foot l', 'change', 'change ', ' change', 'nonsense', 'keep', 'trial', 'add\tstair 0', 'add stair ', 'add  0', 'turn 0 ', 'turn  s', 'set 0 ', 'set  0'):
            self.check_line(line)

    def test_line_feeds(self):
        for line in ('add stair 0\n', '\nadd stair 0', 'add stair\n0', 'turn 0 s\n', 'take\n', 'take\ntake', 'set 0 0\n', 'change\n' + HALL,
                     'change ' + HALL, 'change ' + HALL.replace('\n', '/') + '\n', 'change ' + HALL.replace('\n', '/', 3)):
            self.check_line(line)

    def test_numbers(self):
        for number in ('00', '01', '+0', '-0', '0.0', '1_0', '0x0', 'zero', '-', '--1', '1-', '0 ', '(0)', '-1', '-7', '2', '99', '123456789012'):
            self.check_line(f'turn {number} s')
            self.check_line(f'set {number} 0')
        for line in ('turn 0 s', 'turn 1 s', 'set 0 1', 'set 1 0'):
            self.assertEqual(read_stair(Book(HALL), ('add foot 0', 'add stair 1', line)).journal[2], line)
        many = tuple(['add foot 0'] * 12)
        self.assertEqual(read_stair(Book(SMALL), (*many, 'turn 10 s', 'set 11 1')).done, 14)
        self.check_bad((*many, 'turn 010 s'), 13, SMALL)

    def test_positions(self):
        for word in ('', '-', '2', '00', '01', '000', '0000', '(0)', '0,', 'x', '--', '0-', '-0', '-1', '1.', 'True'):
            self.check_line(f'add stair {word}')
            self.check_line(f'set 0 {word}')
        self.check_bad(('add low 01', 'add mid 01'), 2, MIXED)
        self.check_bad(('add low 01', 'add mid 010', 'add top 0'), 3, MIXED)
        self.check_bad(('add low 01', 'add mid 010', 'add top -', 'set 2 0'), 4, MIXED)

    def test_what_is_refused(self):
        for line in ('add foot 0', 'add cellar 0', 'add Stair 0', 'turn 0 t', 'turn 0 S', 'turn 0 l', 'change ' + OLD.replace('\n', '/'),
                     'change nonsense', 'change /', 'change ' + HALL.replace('\n', '/') + '/', 'change  ' + HALL.replace('\n', '/'),
                     'change ' + HALL.replace('\n', '/') + ' ', 'change ' + HALL.replace('\n', ' '), 'change ' + HALL.replace('\n', '\\n')):
            self.check_bad(('add foot 0', 'add stair 1', line), 3)
        self.check_bad(('take',), 1)
        self.check_bad(('add foot 0', 'take', 'take'), 3)
        self.check_bad(('add stair 0',), 1)
        self.check_bad(('add foot 0',) * 61, 61, SMALL)
        self.assertEqual(len(read_stair(Book(SMALL), ('add foot 0',) * 60)), 60)
        self.check_bad(('add foot 0', 'add head 0', 'add head 0'), 3)

    def test_change_leads_on(self):
        lines = ('add foot 0', 'change ' + OTHER.text.replace('\n', '/'), 'add stair 0', 'change ' + HALL.replace('\n', '/'), 'add head 1')
        stair = read_stair(Book(HALL), lines)
        self.assertEqual([stair.journal, stair.book, len(stair)], [lines, Book(HALL), 3])
        stair.undo()
        stair.undo()
        self.assertEqual(stair.book, OTHER)
        more = HALL.replace('house', 'kind attic\nhouse')
        self.check_bad(('add foot 0', 'change ' + more.replace('\n', '/'), 'add attic -'), 3)

    def test_nothing_but_wire_errors(self):
        for value in any_values():
            for lines in (value, (value,), ('add foot 0', value), (value, value)):
                if lines != ():
                    with self.assertRaises(WireError):
                        read_stair(Book(HALL), lines)


if __name__ == '__main__':
    unittest.main()
