"""Points 2 and 5: the text of a book and what is told of it."""

import unittest

from landingwires.books import Book
from landingwires.errors import BadBook, NoKind, NoLine
from landingwires.standings import Standing
from samples import FOOT, HALL, HEAD, MIXED, SMALL, STAIR, any_values


def text_of(*lines, wires=1, kind='foot'):
    """The text of a book with one kind that has these lines."""
    return '\n'.join([f'wires {wires}', f'kind {kind}', *lines, f'house {kind}'])


class BookCase(unittest.TestCase):

    def check_bad(self, text, number):
        with self.assertRaises(BadBook) as caught:
            Book(text)
        self.assertEqual(caught.exception.value, number, text)
        self.assertIs(caught.exception.value.__class__, int)

    def check_good(self, text):
        self.assertEqual(Book(text).text, text)

    def check_line(self, line, good, wires=1):
        """Check that a line can stand in a kind, or that it cannot."""
        if good:
            self.check_good(text_of(line, wires=wires))
        else:
            self.check_bad(text_of('  lamp ahead live back', line, wires=wires), 4)


class TextTest(BookCase):

    def test_what_is_no_string(self):
        for value in any_values():
            if not isinstance(value, str):
                self.check_bad(value, 0)

    def test_text_by_name(self):
        self.assertEqual(Book(text=SMALL).text, SMALL)

    def test_a_line_missing_at_the_end(self):
        lines = MIXED.split('\n')
        for count in range(1, len(lines)):
            self.check_bad('\n'.join(lines[:count]), count + 1)
        self.check_good(MIXED)

    def test_texts_of_one_line(self):
        for text in ('', ' ', 'wires', 'house foot', 'kind foot', 'foot'):
            self.check_bad(text, 1)
        self.check_bad('wires 1', 2)

    def test_empty_lines(self):
        lines = MIXED.split('\n')
        for at in range(len(lines) + 1):
            self.check_bad('\n'.join([*lines[:at], '', *lines[at:]]), at + 1)

    def test_a_line_feed_at_the_end(self):
        self.check_bad(SMALL + '\n', 5)
        self.check_bad('wires 1\n', 2)
        self.check_bad('wires 1\nkind foot\n', 3)

    def test_blanks_at_the_ends_of_lines(self):
        lines = MIXED.split('\n')
        for at, line in enumerate(lines):
            for wrong in (line + ' ', ' ' + line, line.strip() if line.startswith(' ') else '  ' + line, line[1:]):
                self.check_bad('\n'.join([*lines[:at], wrong, *lines[at + 1:]]), at + 1)

    def test_blanks_between_words(self):
        lines = MIXED.split('\n')
        for at, line in enumerate(lines):
            words = line[2:].split(' ') if line.startswith(' ') else line.split(' ')
            ahead = '  ' if line.startswith(' ') else ''
            for cut in range(1, len(words)):
                for parting in ('  ', '', '   '):
                    wrong = ahead + ' '.join(words[:cut]) + parting + ' '.join(words[cut:])
                    self.check_bad('\n'.join([*lines[:at], wrong, *lines[at + 1:]]), at + 1)

    def test_the_first_wrong_line_is_told(self):
        self.check_bad('wires 5\nkind live\nhouse', 1)
        self.check_bad('wires 1\nkind live\nhouse', 2)
        self.check_bad(text_of('  link b1 a1', '  link b1', '  link b2 a2', '  lamp'), 4)


class WiresTest(BookCase):

    def test_one_to_four_wires(self):
        for wires in (1, 2, 3, 4):
            book = Book(f'wires {wires}\nkind foot\nhouse foot')
            self.assertEqual(book.wires, wires)
            self.assertIs(book.wires.__class__, int)

    def test_other_first_lines(self):
        for line in ('wires 0', 'wires 5', 'wires', 'wires ', 'wires 01', 'wires 1.', 'wires +1', 'wires one', 'wires 1 2',
                     'wires -1', 'wires 12', 'wire 1', 'Wires 1', 'wires1', 'kind foot', '  wires 1', ''):
            self.check_bad(f'{line}\nkind foot\nhouse foot', 1)

    def test_only_the_wires_told_are_points(self):
        for wires in (1, 2, 3, 4):
            for wire in range(6):
                for side in 'ab':
                    self.check_line(f'  link {side}{wire} live', 1 <= wire <= wires, wires=wires)


class KindsTest(BookCase):

    def test_four_kinds_and_a_fifth_one(self):
        for count in (1, 2, 3, 4):
            names = ['a', 'bb', 'ccc', 'dddddddd'][:count]
            book = Book('\n'.join(['wires 1', *[f'kind {name}' for name in names], 'house a']))
            self.assertEqual(book.kinds, tuple(names))
        self.check_bad('wires 1\nkind a\nkind b\nkind c\n  link b1 a1\nkind d\nkind e\nhouse a', 7)

    def test_no_kind(self):
        self.check_bad('wires 1\nhouse foot', 2)
        self.check_bad('wires 1\n  link b1 a1\nhouse foot', 2)

    def test_a_name_that_stands_twice(self):
        self.check_bad('wires 1\nkind a\nkind a\nhouse a', 3)
        self.check_bad('wires 1\nkind a\nkind b\n  link b1 a1\nkind a\nhouse a', 5)

    def test_names(self):
        for name in ('a', 'z', 'abcdefgh', 'kind', 'house', 'wires', 'link', 'lamp', 'lives', 'backs', 'liv', 'bac'):
            book = Book(text_of(f'  switch {name} {name} b1', f'  lamp {name} {name} a1', kind=name))
            self.assertEqual([book.kinds, book.switches(name), book.lamps(name)], [(name,)] * 3)

    def test_no_names(self):
        for name in ('live', 'back', 'abcdefghi', '', 'A', 'aB', 'a1', 'a-', 'foot*', 'b1', '1', '_', "'", '*'):
            self.check_bad(f'wires 1\nkind {name}\nhouse {name}', 2)
            for line in (f'switch {name} b1 a1', f'turn {name} b1 a1 x', f'cross {name} b1 a1 x y', f'lamp {name} b1 a1'):
                self.check_line('  ' + line, False)

    def test_lines_that_are_not_of_a_kind(self):
        for line in ('kind', 'kinds foot', 'Kind foot', 'kind foot foot', 'foot', 'kind foot top', 'house', 'link b1 a1'):
            self.check_bad(f'wires 1\n{line}\nhouse foot', 2)
            self.check_bad(f'wires 1\nkind x\n{line}\nhouse foot', 3)


class LinesTest(BookCase):

    def test_forms(self):
        for line in ('link b1 a1', 'switch s b1 a1', 'turn s b1 a1 x', 'cross s b1 a1 x live', 'lamp l x back',
                     'link live back', 'link x y', 'lamp lamp link switch', 'cross cross turn cross link kind'):
            self.check_line('  ' + line, True)

    def test_other_forms(self):
        for line in ('', ' ', 'link', 'link b1', 'link b1 a1 x', 'switch', 'switch s', 'switch s b1', 'switch s b1 a1 x',
                     'turn s b1 a1', 'turn s b1 a1 x y', 'cross s b1 a1 x', 'cross s b1 a1 x y z', 'lamp l b1',
                     'lamp l b1 a1 x', 'lamp l', 'lamp', 'links b1 a1', 'Link b1 a1', 'fuse f b1 a1', 'kind foot',
                     'house foot', 'wires 1', 'b1 a1'):
            self.check_line('  ' + line, False)

    def test_points(self):
        for point in ('b1', 'a1', 'live', 'back', 'x', 'abcdefgh', 'a', 'b', 'link', 's', 'l'):
            for line in (f'link {point} z', f'link z {point}', f'switch s y {point}', f'turn s y {point} z',
                         f'cross s w y z {point}', f'lamp l {point} z'):
                self.check_line('  ' + line, True)

    def test_no_points(self):
        for point in ('b2', 'a2', 'b0', 'c1', 'B1', 'b11', 'Live', 'abcdefghi', '1', '1b', 'x1', 'a1*', '-'):
            for line in (f'link {point} z', f'link z {point}', f'switch s y {point}', f'turn s {point} y z',
                         f'turn s y {point} z', f'cross s w y {point} z', f'cross s w y z {point}', f'lamp l {point} z'):
                self.check_line('  ' + line, False)

    def test_points_of_a_line_are_unlike(self):
        for point in ('b1', 'live', 'back', 'x'):
            for line in ('link P P', 'switch s P P', 'lamp l P P', 'turn s P P y', 'turn s y P P', 'turn s P y P',
                         'cross s P P y z', 'cross s P y P z', 'cross s P y z P', 'cross s y P P z', 'cross s y z P P'):
                self.check_line('  ' + line.replace('P', point), False)

    def test_twelve_lines_and_a_thirteenth_one(self):
        self.check_good(text_of(*['  link b1 a1'] * 12))
        self.check_bad(text_of(*['  link b1 a1'] * 13), 15)
        self.check_bad('\n'.join(['wires 1', 'kind a', *['  link b1 a1'] * 12, 'kind b', *['  link b1 a1'] * 14]), 28)

    def test_three_switches_of_all_forms_and_one_more(self):
        three = ['  switch s b1 a1', '  turn t b1 a1 x', '  cross u b1 a1 x y']
        book = Book(text_of(*three, '  link b1 a1'))
        self.assertEqual(book.switches('foot'), ('s', 't', 'u'))
        for more in ('  switch v b1 a1', '  turn v b1 a1 x', '  cross v b1 a1 x y'):
            self.check_bad(text_of(*three, '  link b1 a1', more), 7)
            self.check_bad(text_of(more, *three), 6)

    def test_three_lamps_and_one_more(self):
        lamps = [f'  lamp {name} b1 a1' for name in 'klmn']
        self.assertEqual(Book(text_of(*lamps[:3])).lamps('foot'), ('k', 'l', 'm'))
        self.check_bad(text_of(*lamps), 6)

    def test_six_inner_points_and_one_more(self):
        six = ['  link u v', '  turn s w x y', '  lamp l z u']
        self.check_good(text_of(*six, '  link z y'))
        for more in ('link q u', 'lamp m u q', 'switch t q live', 'turn t u v q', 'cross t u v q w'):
            self.check_bad(text_of(*six, '  ' + more), 6)
        self.check_bad(text_of('  cross s t u v w', '  turn r x y z'), 4)

    def test_names_of_switches_and_lamps_are_not_inner_points(self):
        self.check_good(text_of('  turn s u v w', '  turn t x y z', '  lamp l b1 a1', '  lamp m u v'))

    def test_numbers_are_of_each_kind(self):
        lines = ['  switch s u v', '  turn t u v w', '  cross r x y z u', '  lamp k b1 a1', '  lamp l b1 a1', '  lamp m b1 a1']
        self.check_good('\n'.join(['wires 1', 'kind a', *lines, 'kind b', *lines, 'house a b']))

    def test_two_switches_or_lamps_of_one_name(self):
        self.check_bad(text_of('  switch s b1 a1', '  link b1 a1', '  switch s b1 a1'), 5)
        self.check_bad(text_of('  switch s b1 a1', '  turn s b1 a1 x'), 4)
        self.check_bad(text_of('  cross s b1 a1 x y', '  turn r b1 a1 x', '  switch s b1 a1'), 5)
        self.check_bad(text_of('  lamp l b1 a1', '  lamp l live back'), 4)
        self.check_good(text_of('  link b1 a1', '  link b1 a1'))

    def test_a_switch_a_lamp_and_an_inner_point_of_one_name(self):
        book = Book(text_of('  switch s s b1', '  lamp s s a1', '  link s live', kind='s'))
        self.assertEqual([book.switches('s'), book.lamps('s')], [('s',), ('s',)])


class HouseLineTest(BookCase):

    def test_one_to_five_items_and_one_more(self):
        for count in (1, 2, 3, 4, 5):
            book = Book('wires 1\nkind a\nhouse' + ' a' * count)
            self.assertEqual(book.order, (('a', False),) * count)
        self.check_bad('wires 1\nkind a\nhouse' + ' a' * 6, 3)
        self.check_bad('wires 1\nkind a\nhouse' + ' a*' * 6, 3)

    def test_items(self):
        book = Book('wires 1\nkind a\nkind b\nhouse b* a b a* a*')
        self.assertEqual(book.order, (('b', True), ('a', False), ('b', False), ('a', True), ('a', True)))
        self.assertIs(book.order[0][1], True)
        self.assertIs(book.order[1][1], False)

    def test_a_kind_that_was_not_told(self):
        self.check_bad('wires 1\nkind a\nhouse b', 3)
        self.check_bad('wires 1\nkind a\nhouse a b*', 3)
        self.check_bad('wires 1\nkind a\nhouse b\nkind b\nhouse a', 3)

    def test_other_last_lines(self):
        for line in ('house', 'house ', 'house *', 'house a**', 'house *a', 'house a *', 'House a', 'houses a', 'house a,',
                     'housea', 'a', 'house A', 'house live', 'house kind'):
            self.check_bad(f'wires 1\nkind a\n{line}', 3)

    def test_what_stands_behind(self):
        for line in ('house a', 'kind b', '  link b1 a1', '', 'wires 1'):
            self.check_bad(f'wires 1\nkind a\nhouse a\n{line}', 4)
            self.check_bad(f'wires 1\nkind a\nhouse a\n{line}\nhouse a', 4)


class ToldTest(BookCase):

    def test_properties(self):
        book = Book(HALL)
        self.assertIs(book.text, HALL)
        self.assertEqual([book.wires, book.kinds], [3, ('foot', 'stair', 'head')])
        self.assertEqual(book.order, (('foot', False), ('stair', True), ('head', False)))
        self.assertEqual([len(book), len(Book(SMALL))], [12, 4])

    def test_switches_and_lamps(self):
        book = Book(MIXED)
        self.assertEqual([book.switches(kind) for kind in book.kinds], [('s', 't'), ('s', 't', 'u'), ()])
        self.assertEqual([book.lamps(kind=kind) for kind in book.kinds], [('l',), (), ()])
        self.assertEqual(book.switches(kind='low'), ('s', 't'))

    def test_no_kind(self):
        book = Book(MIXED)
        for value in [*any_values(), 'Low', 'low*', 's', 'l', ('low',), ['low']]:
            for call in (book.switches, book.lamps):
                with self.assertRaises(NoKind) as caught:
                    call(value)
                self.assertIs(caught.exception.value, value)

    def test_lines(self):
        book = Book(MIXED)
        self.assertEqual([book[number] for number in range(1, len(book) + 1)], MIXED.split('\n'))

    def test_no_line(self):
        book = Book(SMALL)
        for value in any_values():
            if value.__class__ is not int or not 1 <= value <= 4:
                with self.assertRaises(NoLine) as caught:
                    book[value]
                self.assertIs(caught.exception.value, value)
        self.assertEqual(book[4], 'house foot*')

    def test_in(self):
        book = Book(HALL)
        for kind in ('foot', 'stair', 'head'):
            self.assertIs(kind in book, True)
        for value in [*any_values(), 'house', 's', 'foot*', ('foot',), ['foot'], 'kind foot']:
            self.assertIs(value in book, value == 'foot')

    def test_equal_by_text(self):
        book = Book(HALL)
        self.assertIs(book == Book('\n'.join(['wires 3', FOOT, STAIR, HEAD, 'house foot stair* head'])), True)
        self.assertIs(book != Book(HALL), False)
        other = Book(HALL.replace('link b3 a3', 'link a3 b3'))
        self.assertIs(book == other, False)
        self.assertIs(book != other, True)

    def test_equal_nothing_else(self):
        book = Book(HALL)
        for value in [*any_values(), HALL, tuple(HALL.split('\n')), Standing.bare(3)]:
            self.assertIs(book == value, False)
            self.assertIs(value == book, False)
            self.assertIs(book != value, True)


if __name__ == '__main__':
    unittest.main()
