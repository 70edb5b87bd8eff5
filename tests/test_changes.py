"""Points 2, 3 and 5: books that are changed or turned upside down, and what rises and sinks by them."""

import itertools
import unittest

from landingwires.books import Book
from landingwires.errors import BadChange, BadPosition, BadStanding, NoKind, NoLine
from landingwires.standings import Standing
from samples import (HALL, MIXED, SMALL, all_positions, all_standings, all_steps, any_values, check_raises, drawn_books,
                     slow_step)

BOOKS = [Book(SMALL), Book(MIXED), *drawn_books(1, 12), *drawn_books(2, 8), *drawn_books(3, 2)]


class PutTest(unittest.TestCase):

    def test_a_line_in_the_place_of_another(self):
        lines = HALL.split('\n')
        book = Book(HALL)
        for number, line in ((1, 'wires 4'), (3, '  turn s live a2 a1'), (9, 'kind head'), (11, '  link b3 b2')):
            self.assertEqual(book.put(number, line).text, '\n'.join([*lines[:number - 1], line, *lines[number:]]))
        self.assertEqual(book.put(7, '  link a3 b3').text, HALL.replace('  link b3 a3', '  link a3 b3'))
        self.assertEqual(book.put(12, 'house head').order, (('head', False),))
        self.assertEqual(book.put(number=12, text='house head').text, book.put(12, 'house head').text)
        self.assertEqual(book.text, HALL)

    def test_each_line_by_itself(self):
        for book in BOOKS:
            for number in range(1, len(book) + 1):
                self.assertEqual(book.put(number, book[number]), book)

    def test_several_lines(self):
        book = Book(SMALL).put(3, '  link b1 x\n  lamp l x back\nkind top\n  link b1 back')
        self.assertEqual(book.text, 'wires 1\nkind foot\n  link b1 x\n  lamp l x back\nkind top\n  link b1 back\nhouse foot*')
        self.assertEqual([len(book), book.kinds, book.lamps('foot')], [7, ('foot', 'top'), ('l',)])
        self.assertEqual(Book(SMALL).put(4, 'kind top\nhouse top').order, (('top', False),))

    def test_a_line_left_out(self):
        book = Book(SMALL).put(3, '')
        self.assertEqual([book.text, len(book)], ['wires 1\nkind foot\nhouse foot*', 3])
        self.assertEqual(Book('wires 1\nkind a\n  link b1 a1\nkind b\n  link b1 x\nhouse a').put(4, '').kinds, ('a',))

    def test_no_line(self):
        book = Book(SMALL)
        for value in any_values():
            if value.__class__ is not int or not 1 <= value <= 4:
                check_raises(self, NoLine, value, book.put, value, '  link b1 a1')
                check_raises(self, NoLine, value, book.put, value, None)
                check_raises(self, NoLine, value, book.put, text='no line', number=value)

    def test_what_is_no_string(self):
        for value in any_values():
            if not isinstance(value, str):
                check_raises(self, BadChange, value, Book(SMALL).put, 3, value)

    def test_no_book_comes(self):
        book = Book(SMALL)
        for number, text in ((1, ''), (2, ''), (4, ''), (1, 'wires 5'), (3, 'link b1 a1'), (3, '  link b1 a2'),
                             (3, '\n'), (3, '  link b1 a1\n'), (3, '\n  link b1 a1'), (4, 'house top'), (2, 'kind top'),
                             (4, 'house foot\nhouse foot'), (3, ' '), (1, SMALL), (3, '\n'.join(['  link b1 a1'] * 13))):
            check_raises(self, BadChange, text, book.put, number, text)
        self.assertEqual(book.text, SMALL)


class UpsideDownTest(unittest.TestCase):

    def test_text(self):
        down = ~Book(MIXED)
        self.assertEqual(down.text, '\n'.join([
            'wires 2', 'kind low', '  switch s live b1', '  turn t back x b2', '  lamp l x b1', '  link x a2',
            'kind mid', '  cross s a1 b1 y a2', '  turn t y b2 live', '  switch u a1 a2', '  link b1 y',
            'kind top', 'house mid* low top* mid low*']))

    def test_all_wires_are_exchanged(self):
        book = Book('wires 4\nkind a\n  cross a b1 b2 b3 b4\n  cross b a1 a2 a3 a4\n  link a b\nhouse a')
        self.assertEqual((~book).text, 'wires 4\nkind a\n  cross a a1 a2 a3 a4\n  cross b b1 b2 b3 b4\n  link a b\nhouse a')

    def test_twice_is_the_book(self):
        for book in BOOKS:
            text = book.text
            self.assertEqual(~~book, book)
            self.assertEqual(book.text, text)

    def test_what_rises_by_the_one_sinks_by_the_other(self):
        for book in BOOKS:
            down = ~book
            for step in all_steps(book):
                self.assertEqual(book.risen(*step), down.sunk(*step))
                self.assertEqual(book.sunk(*step), down.risen(*step))


class StepsTest(unittest.TestCase):

    def test_just_what_hangs_together(self):
        for book in BOOKS:
            for step in all_steps(book):
                self.assertEqual(book.risen(*step).marks, slow_step(book, *step, 'b', 'a'), (book.text, step))
                self.assertEqual(book.sunk(*step).marks, slow_step(book, *step, 'a', 'b'), (book.text, step))

    def test_of_four_wires(self):
        for book in drawn_books(4, 2):
            for step in all_steps(book):
                self.assertEqual(book.risen(*step).marks, slow_step(book, *step, 'b', 'a'), (book.text, step))

    def test_each_form_in_each_position(self):
        for line, off, on in (
                ('switch s b1 a1', (0, 1, 2, 3), (0, 1, 0, 3)),
                ('turn s live a1 a2', (0, 1, 0, 3), (0, 1, 1, 3)),
                ('turn s back a1 live', (0, 1, 2, 0), (0, 1, 2, 2)),
                ('cross s live a1 back a2', (0, 1, 0, 1), (0, 1, 1, 0)),
                ('cross s live a1 a2 back', (0, 1, 0, 1), (0, 0, 2, 2)),
                ('lamp s live a1\n  switch t a1 a2', (0, 1, 2, 3), (0, 0, 2, 3))):
            book = Book(f'wires 2\nkind k\n  {line}\nhouse k')
            self.assertEqual(book.risen('k', (0,), Standing((0, 1, 0, 3))).marks, off, line)
            self.assertEqual(book.risen('k', (1,), Standing((0, 1, 0, 3))).marks, on, line)

    def test_positions_go_by_the_sequence_of_the_text(self):
        book = Book('wires 2\nkind k\n  switch t live a1\n  link x y\n  switch s back a2\nhouse k')
        self.assertEqual(book.risen('k', (1, 0), Standing.bare(2)).marks, (0, 1, 0, 3))
        self.assertEqual(book.risen('k', (0, 1), Standing.bare(2)).marks, (0, 1, 2, 1))

    def test_arguments_by_name(self):
        book, standing = Book(HALL), Standing((0, 0, 2, 3, 4))
        for call in (book.risen, book.sunk):
            self.assertEqual(call(standing=standing, position=(1,), kind='stair'), call('stair', (1,), standing))
        self.assertEqual(standing.marks, (0, 0, 2, 3, 4))

    def test_no_kind(self):
        book = Book(HALL)
        for call in (book.risen, book.sunk):
            for value in any_values():
                if value.__class__ is not str or value != 'foot':
                    check_raises(self, NoKind, value, call, value, (0,), Standing.bare(3))

    def test_no_position(self):
        book = Book(HALL)
        for call in (book.risen, book.sunk):
            for value in [*any_values(), (0, 0), (-1,), (False,), (True,), ('0',), ((0,),), '0', {0: 0}]:
                if value.__class__ is not tuple or value != (0,):
                    check_raises(self, BadPosition, value, call, 'stair', value, Standing.bare(3))

    def test_positions_without_and_with_several_switches(self):
        book = Book(MIXED)
        for kind, right in (('low', 2), ('mid', 3), ('top', 0)):
            for count in range(5):
                for position in itertools.product((0, 1), repeat=count):
                    if count == right:
                        self.assertEqual(book.risen(kind, position, Standing.bare(2)).wires, 2)
                    else:
                        check_raises(self, BadPosition, position, book.risen, kind, position, Standing.bare(2))
        for value in ((0, True), (False, 0), (0, 2), (None, 0), [0, 0]):
            check_raises(self, BadPosition, value, book.sunk, 'low', value, Standing.bare(2))

    def test_no_standing(self):
        book = Book(HALL)
        for call in (book.risen, book.sunk):
            for value in [*any_values(), Standing.bare(2), (0, 1, 2, 3, 4)]:
                check_raises(self, BadStanding, value, call, 'stair', (0,), value)

    def test_the_first_wrong_argument_is_told(self):
        book, wrong = Book(HALL), Standing.bare(2)
        for call in (book.risen, book.sunk):
            check_raises(self, NoKind, 'top', call, 'top', (2,), wrong)
            check_raises(self, NoKind, 'top', call, 'top', (0,), wrong)
            check_raises(self, NoKind, None, call, None, (), Standing.bare(3))
            position = [0]
            check_raises(self, BadPosition, position, call, 'foot', position, wrong)
            check_raises(self, BadPosition, position, call, standing=None, position=position, kind='foot')


class MoreJoinedTest(unittest.TestCase):

    def points(self, wires):
        return [f'{side}{wire + 1}' for side in 'ba' for wire in range(wires)] + ['live', 'back', 'x']

    def check_more(self, book, number, line):
        """Check that with a line more behind a line all that hung together does so still."""
        more = book.put(number, book[number] + '\n' + line)
        for step in all_steps(book):
            for one, other in ((book.risen(*step), more.risen(*step)), (book.sunk(*step), more.sunk(*step))):
                self.assertTrue(one.within(other), (more.text, step))

    def test_a_link_more(self):
        for book in drawn_books(1, 6) + drawn_books(2, 2):
            for one, other in itertools.combinations(self.points(book.wires), 2):
                self.check_more(book, 2, f'  link {one} {other}')

    def test_a_link_more_is_seen(self):
        book = Book('wires 2\nkind k\nhouse k')
        more = book.put(2, 'kind k\n  link b1 a2')
        self.assertEqual(book.risen('k', (), Standing((0, 1, 0, 3))), Standing.bare(2))
        self.assertEqual(more.risen('k', (), Standing((0, 1, 0, 3))), Standing((0, 1, 1, 3)))

    def test_more_below_is_more_above(self):
        for book in drawn_books(1, 6):
            for position in all_positions(book, 'k'):
                for one, other in itertools.product(all_standings(1), repeat=2):
                    low, high = book.risen('k', position, one), book.risen('k', position, one | other)
                    self.assertTrue(low.within(high))


if __name__ == '__main__':
    unittest.main()
