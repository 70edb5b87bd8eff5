"""Points 2, 3 and 8: what can come in all houses of a book, and what never can."""

import itertools
import random
import unittest

from landingwires.books import Book
from landingwires.errors import BadWhat
from landingwires.houses import House
from landingwires.reaching import can, shows_can, standings
from landingwires.standings import Standing
from samples import (HALL, MIXED, OLD, SMALL, SlowHouse, all_landings, all_marks, all_positions, all_whats, any_values,
                     bent_values, check_raises, lots_of_books, moved_values, points_of, slow_meeting,
                     slow_seen)

BOOKS = [Book(OLD), Book(HALL), Book(SMALL), *lots_of_books(1, 14, 2), *lots_of_books(2, 5, 2)]
# A house of none but starred items, side by side, and what needs landings of both ends.
STARS = Book('wires 2\nkind a\n  link live a1\n  link b1 a2\nkind b\n  switch s b1 b2\n  link a1 b1\n  link a2 b2\n'
             '  lamp l b2 back\nkind c\n  lamp m b1 live\nhouse a* b* b* a*')


def full_evidence(book):
    """All pairs (gate, marks) that there are."""
    return tuple(sorted(itertools.product(range(len(book.order) + 1), all_marks(book.wires + 2))))


def met(book, what, below, above):
    """Whether it is so at a meeting, by a house that is made for each meeting."""
    return any(slow_meeting(book, kind, position, one, other).is_so(0, what)
               for item, (kind, starred) in enumerate(book.order)
               for gate, one in below if gate == item
               for at, other in above if at == (item if starred else item + 1)
               for position in all_positions(book, kind))


def is_shut(book, below, above):
    """Whether both tuples are shut, step by step as the document tells it."""
    last, bare = len(book.order), tuple(range(book.wires + 2))
    if (0, bare) not in below or (last, bare) not in above:
        return False
    for item, (kind, starred) in enumerate(book.order):
        gate = item if starred else item + 1
        for at, marks in below:
            if at == item:
                led = {(gate, book.risen(kind, position, Standing(marks)).marks) for position in all_positions(book, kind)}
                if not (led | {(item + 1, marks)} if starred else led) <= set(below):
                    return False
        for at, marks in above:
            if starred and at == item + 1 and (item, marks) not in above:
                return False
            if at == gate and not {(item, book.sunk(kind, position, Standing(marks)).marks)
                                   for position in all_positions(book, kind)} <= set(above):
                return False
    return True


class StandingsTest(unittest.TestCase):

    def test_least_shut_tuples_against_the_slow_reckoning(self):
        for book in [*BOOKS, STARS, *lots_of_books(3, 4, 2), *lots_of_books(4, 2, 2)]:
            self.assertEqual(standings(book), slow_seen(book), book.text)
            self.assertTrue(is_shut(book, *standings(book)))

    def test_starred_items_are_passed(self):
        for order, gates in (('a', [0, 1]), ('a*', [0, 1]), ('a* b', [0, 1, 2]), ('a* b*', [0, 1, 2])):
            book = Book(f'wires 1\nkind a\n  link live a1\nkind b\nhouse {order}')
            below, above = standings(book)
            self.assertEqual(sorted({gate for gate, _ in below}), gates)
            self.assertEqual(sorted({gate for gate, _ in above}), gates)
        below, above = standings(Book('wires 1\nkind a\n  link live a1\nkind b\nhouse a* b*'))
        self.assertEqual(below, tuple((gate, marks) for gate in (0, 1, 2) for marks in ((0, 0, 2), (0, 1, 2))))
        self.assertEqual(above, ((0, (0, 1, 2)), (1, (0, 1, 2)), (2, (0, 1, 2))))

    def test_a_starred_item_leads_to_its_own_gate(self):
        below, above = standings(Book('wires 1\nkind a\n  link live a1\nkind b\n  link live b1\nhouse a* b'))
        self.assertEqual(below, ((0, (0, 0, 2)), (0, (0, 1, 2)), (1, (0, 0, 2)), (1, (0, 1, 2)), (2, (0, 1, 2))))
        self.assertEqual(above, ((0, (0, 0, 2)), (0, (0, 1, 2)), (1, (0, 0, 2)), (2, (0, 1, 2))))

    def test_books_by_name_and_again(self):
        for book in BOOKS[:3]:
            self.assertEqual(standings(book=book), standings(book))


class CanTest(unittest.TestCase):

    def test_against_all_houses_of_up_to_three_landings(self):
        firsts = set()
        for book in [*BOOKS, STARS]:
            slows = [SlowHouse(book, landings) for landings in all_landings(book, 3)]
            for what in all_whats(book):
                found = can(book, what)
                firsts.add((what[0], found[0]))
                so = [len(slow.landings) for slow in slows if any(slow.is_so(at, what) for at in range(len(slow.landings)))]
                if found[0] == 'never':
                    self.assertEqual([so, found[1:]], [[], standings(book)])
                else:
                    self.assertEqual(found[0], 'can')
                    self.assertTrue(SlowHouse(book, found[1]).is_so(found[2], what), (book.text, what, found))
                    if so:
                        self.assertEqual(len(found[1]), so[0], (book.text, what, found))
                    else:
                        self.assertGreater(len(found[1]), 3)
        self.assertEqual(len(firsts), 6)

    def test_what_never_is_is_at_no_meeting(self):
        for book in BOOKS:
            least = standings(book)
            for what in all_whats(book):
                self.assertIs(met(book, what, *least), can(book, what)[0] == 'can', (book.text, what))

    def test_what_needs_many_landings(self):
        book = Book('wires 4\nkind foot\n  link live a1\nkind up\n  link b1 a2\n  link b2 a3\n  link b3 a4\n'
                    'kind top\n  lamp l b4 back\nhouse foot up* top')
        found = can(book, ('lamp', 'top', 'l', 'lit'))
        self.assertEqual(found, ('can', (('foot', ()), ('up', ()), ('up', ()), ('up', ()), ('top', ())), 4))
        self.assertEqual([len(can(book, ('joined', 'up', f'b{wire}', 'live'))[1]) for wire in (1, 2, 3)], [3, 4, 5])
        self.assertEqual(can(book, ('joined', 'up', 'b4', 'live'))[0], 'can')
        self.assertEqual(can(book, ('short',))[0], 'never')

    def test_short_anywhere_in_the_house(self):
        book = Book('wires 1\nkind a\n  lamp l b1 a1\nkind b\n  link live back\nhouse a a* b*')
        self.assertEqual(can(book, ('short',)), ('can', (('a', ()), ('b', ())), 0))
        self.assertEqual(can(book, ('lamp', 'a', 'l', 'short')), ('can', (('a', ()), ('b', ())), 0))
        self.assertEqual(can(book, ('joined', 'a', 'live', 'back'))[1], (('a', ()), ('b', ())))
        self.assertEqual(can(book, ('lamp', 'a', 'l', 'dark')), ('can', (('a', ()),), 0))

    def test_a_kind_that_is_no_item(self):
        for order in ('a', 'a*', 'a* a'):
            book = Book(f'wires 1\nkind a\n  link live b1\nkind b\n  link live back\n  lamp l live b1\nhouse {order}')
            for what in (('lamp', 'b', 'l', 'short'), ('lamp', 'b', 'l', 'dark'), ('joined', 'b', 'live', 'back')):
                self.assertEqual(can(book, what), ('never', *standings(book)))
                self.assertIs(shows_can(book, what, ('never', *standings(book))), True)
                self.assertIs(shows_can(book, what, ('never', full_evidence(book), full_evidence(book))), True)
            self.assertEqual(can(book, ('short',))[0], 'never')

    def test_starred_items_first_last_and_side_by_side(self):
        for order, most in (('a* b', 1), ('b a*', 1), ('a* b a*', 1), ('a* b* a*', 1), ('a* a* b* b*', 1), ('a b* a', 3),
                            ('a a* b*', 2), ('b* b* a a', 3)):
            book = Book(f'wires 1\nkind a\nkind b\n  lamp l live back\nhouse {order}')
            found = can(book, ('lamp', 'b', 'l', 'lit'))
            self.assertEqual([found[0], len(found[1]), found[1][found[2]]], ['can', most, ('b', ())])

    def test_points_in_the_other_sequence(self):
        for book in BOOKS[:6]:
            for what in all_whats(book):
                if what[0] == 'joined':
                    self.assertEqual(can(book, (*what[:2], what[3], what[2])), can(book, what))

    def test_a_house_has_a_landing(self):
        book = Book('wires 1\nkind a\n  link b1 live\nhouse a*')
        self.assertEqual(can(book, ('joined', 'a', 'b1', 'live')), ('can', (('a', ()),), 0))
        self.assertEqual(can(book, ('joined', 'a', 'a1', 'live')), ('can', (('a', ()), ('a', ())), 0))

    def test_points_that_do_not_stand_in_the_text(self):
        book = Book('wires 2\nkind a\n  link b1 live\nhouse a a')
        self.assertEqual(can(book, ('joined', 'a', 'a1', 'live'))[2], 0)
        self.assertEqual(can(book, ('joined', 'a', 'b2', 'a2'))[0], 'never')
        self.assertEqual(can(book, ('joined', 'a', 'back', 'live'))[0], 'never')

    def test_upside_down(self):
        for book in [*BOOKS, STARS]:
            for what in all_whats(book):
                down = what
                if what[0] == 'joined':
                    down = what[:2] + tuple(self.other_side(point) for point in what[2:])
                one, other = can(book, what), can(~book, down)
                self.assertEqual(one[0], other[0], (book.text, what))
                if one[0] == 'can':
                    self.assertEqual(len(one[1]), len(other[1]))

    def other_side(self, point):
        return {'a': 'b', 'b': 'a'}[point[0]] + point[1] if point[1:].isdigit() else point

    def test_names_exchanged(self):
        text = HALL.replace('foot', 'zz').replace('stair', 'foot').replace('head', 'a').replace(' s ', ' l ').replace(
            'lamp l', 'lamp s')
        one, other = Book(HALL), Book(text)
        self.assertEqual(standings(one), standings(other))
        kinds = {'foot': 'zz', 'stair': 'foot', 'head': 'a'}
        for what in all_whats(one):
            told = (what[0], kinds[what[1]], 's', what[3]) if what[0] == 'lamp' else what
            if what[0] == 'joined':
                told = (what[0], kinds[what[1]], *what[2:])
            self.assertEqual(can(one, what)[0], can(other, told)[0])
            self.assertEqual(len(can(one, what)[1]), len(can(other, told)[1]))

    def test_long_houses_by_lot(self):
        lots = random.Random(9)
        for book in [*BOOKS, STARS, *lots_of_books(3, 3, 5)]:
            never = [what for what in all_whats(book) if can(book, what)[0] == 'never']
            below, above = [{marks for _, marks in some} for some in standings(book)]
            for _ in range(3):
                kinds = [kind for kind, starred in book.order for _ in range(lots.randrange(8) if starred else 1)]
                landings = tuple((kind, lots.choice(all_positions(book, kind))) for kind in kinds)
                if landings:
                    house, slow = House(book, landings), SlowHouse(book, landings)
                    for number in range(len(landings)):
                        self.assertIn(house.below(number).marks, below)
                        self.assertIn(house.above(number).marks, above)
                        for what in never:
                            self.assertFalse(slow.is_so(number, what), (book.text, landings, what))

    def test_a_link_more(self):
        lots = random.Random(10)
        for book in [*BOOKS[3:], STARS]:
            kind = book.order[0][0]
            number = book.text.split('\n').index(f'kind {kind}') + 1
            more = book.put(number, f"kind {kind}\n  link {' '.join(lots.sample(points_of(book, kind), 2))}")
            for what in all_whats(book):
                if what[0] != 'lamp' and can(book, what)[0] == 'can':
                    self.assertEqual(can(more, what)[0], 'can')
                    self.assertLessEqual(len(can(more, what)[1]), len(can(book, what)[1]))

    def test_arguments_by_name_and_again(self):
        for what in (('short',), ('lamp', 'foot', 'l', 'warm')):
            self.assertEqual(can(what=what, book=Book(OLD)), can(Book(OLD), what))
            self.assertIs(shows_can(value=can(Book(OLD), what), what=what, book=Book(OLD)), True)


class WhatTest(unittest.TestCase):

    def check_bad(self, book, what):
        check_raises(self, BadWhat, what, can, book, what)
        check_raises(self, BadWhat, what, shows_can, book, what, None)
        check_raises(self, BadWhat, what, shows_can, value=('never', *standings(book)), what=what, book=book)

    def test_other_values(self):
        for book in (Book(OLD), Book(MIXED)):
            for value in any_values():
                for what in (value, (value,), (value, 'foot', 'l', 'lit'), ('lamp', value, 'l', 'lit'),
                             ('lamp', 'foot', value, 'lit'), ('lamp', 'foot', 'l', value), ('joined', value, 'live', 'back'),
                             ('joined', 'head', value, 'back'), ('joined', 'head', 'back', value), ('short', value)):
                    if not (book == Book(OLD) and what in [('lamp', 'foot', 'l', 'lit'), ('joined', 'foot', 'live', 'back'),
                                                           ('joined', 'head', 'live', 'back'), ('joined', 'head', 'b1', 'back'),
                                                           ('joined', 'head', 'back', 'b1'), ('joined', 'head', 'back', 'live')]):
                        self.check_bad(book, what)

    def test_short(self):
        for what in (['short'], 'short', ('short', 0), ('short',) * 2, ('Short',), ('short', 'foot', 'l', 'lit'), ()):
            self.check_bad(Book(OLD), what)

    def test_lamps(self):
        for what in (('lamp', 'foot', 'l'), ('lamp', 'foot', 'l', 'lit', 0), ['lamp', 'foot', 'l', 'lit'],
                     ('lamp', 'head', 'l', 'lit'), ('lamp', 'foot', 's', 'lit'), ('lamp', 'foot', 'l', 'bright'),
                     ('lamp', 'foot', 'l', 'LIT'), ('lamp', 'top', 'l', 'lit'), ('lamps', 'foot', 'l', 'lit')):
            self.check_bad(Book(OLD), what)

    def test_points(self):
        book = Book(OLD)
        for one, other in (('b1', 'a1'), ('x', 'live'), ('back', 'x'), ('a1', 'x'), ('live', 'back')):
            self.assertIn(can(book, ('joined', 'foot', one, other))[0], ('can', 'never'))
            self.assertEqual(can(book, ('joined', 'foot', one, other))[0], can(book, ('joined', 'foot', other, one))[0])
        for one, other in (('b2', 'a1'), ('a1', 'a2'), ('a0', 'b1'), ('y', 'live'), ('live', 'y'), ('x', 'x'), ('a1', 'a1'),
                           ('live', 'live'), ('s', 'live'), ('l', 'live'), ('', 'live'), ('live', 'Live')):
            self.check_bad(book, ('joined', 'foot', one, other))
        for what in (('joined', 'foot', 'x'), ('joined', 'foot', 'x', 'live', 'back'), ('joined', 'head', 'x', 'live'),
                     ('joined', 'foot', ('x',), 'live'), ['joined', 'foot', 'x', 'live'], ('join', 'foot', 'x', 'live')):
            self.check_bad(book, what)


class ShownTest(unittest.TestCase):

    def test_what_can_tells_is_shown(self):
        for book in [*BOOKS, STARS]:
            for what in all_whats(book):
                self.assertIs(shows_can(book, what, can(book, what)), True, (book.text, what))

    def test_all_houses(self):
        for book in (Book(OLD), *lots_of_books(1, 3, 3)):
            for what in all_whats(book):
                fewest = can(book, what)
                for landings in all_landings(book, 3):
                    slow = SlowHouse(book, landings)
                    for number in range(-1, len(landings) + 1):
                        right = fewest[0] == 'can' and len(landings) == len(fewest[1]) and 0 <= number < len(landings)
                        right = right and slow.is_so(number, what) and (number == 0 or what != ('short',))
                        self.assertIs(shows_can(book, what, ('can', landings, number)), right, (book.text, what, landings))

    def test_longer_houses_are_wrong(self):
        book = Book('wires 1\nkind a\n  lamp l live back\nhouse a*')
        what = ('lamp', 'a', 'l', 'lit')
        self.assertIs(shows_can(book, what, ('can', (('a', ()),), 0)), True)
        self.assertIs(shows_can(book, what, ('can', (('a', ()),) * 2, 0)), False)
        self.assertIs(shows_can(book, what, ('can', (), 0)), False)

    def test_evidence_larger_than_the_least(self):
        larger = 0
        for book in [*BOOKS, STARS]:
            if book.wires > 2:
                continue
            below, above = standings(book)
            full = full_evidence(book)
            for what in list(all_whats(book))[::5]:
                for some, others in ((full, above), (below, full), (full, full), (below, above)):
                    right = not met(book, what, some, others)
                    self.assertIs(shows_can(book, what, ('never', some, others)), right, (book.text, what))
                    larger += right and some + others != below + above
        self.assertGreater(larger, 10)

    def test_evidence_with_a_pair_more_or_less(self):
        seen = set()
        for book in (Book(OLD), STARS, *lots_of_books(1, 6, 3)):
            least = standings(book)
            whats = [what for what in all_whats(book) if can(book, what)[0] == 'never'][:3]
            for pair in full_evidence(book):
                for at in (0, 1):
                    parts = list(least)
                    parts[at] = tuple(sorted(set(least[at]) ^ {pair}))
                    for what in whats:
                        right = is_shut(book, *parts) and not met(book, what, *parts)
                        seen.add(right)
                        self.assertIs(shows_can(book, what, ('never', *parts)), right, (book.text, what, parts))
        self.assertEqual(seen, {True, False})

    def test_evidence_that_is_not_ascending(self):
        for book in (Book(OLD), Book(HALL)):
            what = ('lamp', 'foot', 'l', 'short')
            below, above = standings(book)
            self.assertIs(shows_can(book, what, ('never', below, above)), True)
            for some in moved_values(below):
                self.assertIs(shows_can(book, what, ('never', some, above)), False)
            for some in moved_values(above):
                self.assertIs(shows_can(book, what, ('never', below, some)), False)

    def test_marks_that_are_none_of_the_book(self):
        book, what = Book(OLD), ('short',)
        below, above = standings(book)
        for pair in ((0, (0, 1)), (0, (0, 1, 2, 3)), (0, (0, 0, 1)), (0, (0, 1, 3)), (0, (0, True, 2)), (0, (False, 1, 2)),
                     (True, (0, 1, 2)), (False, (0, 1, 2)), (-1, (0, 1, 2)), (3, (0, 1, 2)), (0,), (0, (0, 1, 2), ()),
                     (0, [0, 1, 2]), [0, (0, 1, 2)], ('0', (0, 1, 2)), (0, '012'), (0, Standing((0, 1, 2))), None, 0):
            for at in range(len(below) + 1):
                self.assertIs(shows_can(book, what, ('never', below[:at] + (pair,) + below[at:], above)), False)
                self.assertIs(shows_can(book, what, ('never', below, above[:at] + (pair,) + above[at:])), False)
                self.assertIs(shows_can(book, what, ('never', below[:at] + (pair,) + below[at + 1:], above)), False)
                self.assertIs(shows_can(book, what, ('never', below, above[:at] + (pair,) + above[at + 1:])), False)
        self.assertIs(shows_can(book, what, ('never', below, above)), True)

    def test_other_forms(self):
        book, what = Book(OLD), ('short',)
        least = standings(book)
        for value in (('never',), ('never', least), ('never', *least, ()), ('never', *least[::-1]), ['never', *least],
                      ('can', *least), ('Never', *least), least, (least[0], 'never', least[1]), ('never', (), ()),
                      ('never', least[0], ()), ('never', (), least[1]), ('never', list(least[0]), least[1])):
            self.assertIs(shows_can(book, what, value), False)

    def test_any_values(self):
        for book, what in ((Book(OLD), ('short',)), (Book(OLD), ('lamp', 'foot', 'l', 'warm')),
                           (Book(MIXED), ('joined', 'low', 'x', 'live'))):
            for value in any_values():
                for told in (value, (value,), ('can', value, 0), ('never', value, value), ('can', (value,), 0), (value,) * 3,
                             ('can', (('foot', value), ('head', (0,))), 0), ('never', (value,), (value,)),
                             ('never', ((0, value),), ((2, value),)), ('never', ((value, (0, 1, 2)),), ((value, (0, 1, 2)),))):
                    if told != ('can', (('foot', (0,)), ('head', (0,))), 0):
                        self.assertIs(shows_can(book, what, told), False, told)
                told = can(book, what)
                if told[0] == 'can' and value.__class__ is not int:
                    self.assertIs(shows_can(book, what, (*told[:2], value)), False)

    def test_bent_values(self):
        for book in (Book(OLD), Book(HALL), *lots_of_books(2, 2, 3)):
            for what in list(all_whats(book))[:6]:
                for bent in bent_values(can(book, what)):
                    self.assertIs(shows_can(book, what, bent), False, bent)

    def test_arguments_stay(self):
        book, what = Book(OLD), ('lamp', 'foot', 'l', 'warm')
        house = House(book, can(book, what)[1])
        self.assertEqual([house.word(can(book, what)[2], 'l'), book, what], ['warm', Book(OLD), ('lamp', 'foot', 'l', 'warm')])


if __name__ == '__main__':
    unittest.main()
