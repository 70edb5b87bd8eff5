"""Points 2 and 7: what shows the word of a lamp."""

import itertools
import random
import unittest

from landingwires.books import Book
from landingwires.burning import burns, shows_burns
from landingwires.errors import NoLamp, NoLanding
from landingwires.houses import House
from samples import (HALL, MIXED, OLD, SlowHouse, all_landings, any_values, bent_values, check_raises, lots_of_books,
                     moved_values)

LENGTHS = {'short': 2, 'lit': 4, 'warm': 3, 'dark': 2}


def drawn_lamps(each=5):
    """Lamps of houses by lot: the slow reckoning of the house, its number and its name."""
    lots = random.Random(8)
    for book in [Book(OLD), Book(HALL), *lots_of_books(1, 8, 1), *lots_of_books(2, 8, 1), *lots_of_books(3, 2, 1)]:
        found = all_landings(book, 3)
        for landings in lots.sample(found, min(each, len(found))):
            slow = SlowHouse(book, landings)
            for number, (kind, _) in enumerate(landings):
                for lamp in book.lamps(kind):
                    yield slow, number, lamp


def is_row(slow, row):
    """Whether this is a row of neighbours, as the document tells it."""
    steps = [frozenset(pair) in slow.pairs for pair in zip(row, row[1:])]
    return isinstance(row, tuple) and len(row) > 0 and all(place in slow.places for place in row) and all(steps)


def is_shore(slow, shore):
    """Whether this is a shore, as the document tells it."""
    if not isinstance(shore, tuple) or list(shore) != sorted(set(shore)) or not set(shore) <= set(slow.places):
        return False
    return all(len(pair & set(shore)) != 1 for pair in slow.pairs)


def is_right(slow, number, lamp, value):
    """Whether a value shows the word of a lamp, as the document tells it."""
    word, *parts = value
    ends = slow.ends(number, lamp)
    rows, shores = {'short': (1, 0), 'lit': (2, 1), 'warm': (1, 1), 'dark': (0, 1)}[word]
    if len(parts) != rows + shores or not all(is_row(slow, row) for row in parts[:rows]):
        return False
    if not all(is_shore(slow, shore) for shore in parts[rows:]):
        return False
    starts = [row[0] for row in parts[:rows]]
    goals = [row[-1][1] for row in parts[:rows]]
    on_shore = {point for shore in parts[rows:] for _, point in shore} & {'live', 'back'}
    end_on_shore = any(end in shore for shore in parts[rows:] for end in ends)
    if word == 'short':
        return starts[0][1] == 'live' and goals == ['back']
    if word == 'lit':
        return sorted(starts) == sorted(ends) and goals == ['live', 'back'] and on_shore == {'live'}
    if word == 'warm':
        return starts[0] in ends and goals == ['live'] and on_shore == {'back'} and not end_on_shore
    return on_shore == {'live'} and not end_on_shore


def shores_of(slow):
    """All places, parted by what hangs together."""
    found = []
    for place in slow.places:
        if not any(place in shore for shore in found):
            found.append(frozenset(slow.reach(place)))
    return found


class ToldTest(unittest.TestCase):

    def test_what_burns_tells_is_right(self):
        found = {}
        for slow, number, lamp in drawn_lamps():
            value = burns(House(slow.book, slow.landings), number, lamp)
            self.assertEqual(value[0], slow.word(number, lamp))
            self.assertEqual(len(value), LENGTHS[value[0]])
            self.assertTrue(is_right(slow, number, lamp, value), (slow.book.text, slow.landings, value))
            self.assertIs(shows_burns(House(slow.book, slow.landings), number, lamp, value), True)
            self.assertEqual(burns(House(slow.book, slow.landings), number, lamp), value)
            found[value[0]] = found.get(value[0], 0) + 1
        self.assertEqual(sorted(found), ['dark', 'lit', 'short', 'warm'])
        self.assertGreater(min(found.values()), 5)

    def test_an_end_that_is_live_or_back_itself(self):
        house = House(Book('wires 1\nkind k\n  lamp l live back\n  lamp m x live\n  lamp n back a1\nhouse k*'), (('k', ()),) * 2)
        self.assertEqual(burns(house, 1, 'l')[:3], ('lit', ((1, 'live'),), ((1, 'back'),)))
        self.assertEqual(burns(house, 1, 'm'), ('warm', ((1, 'live'),), ((0, 'back'), (1, 'back'))))
        self.assertEqual(burns(house, 0, 'n'), ('dark', ((0, 'live'), (1, 'live'))))

    def test_a_house_of_one_landing(self):
        for lines, told in ((('link live x', 'link x back'), ('short', ((0, 'live'), (0, 'x'), (0, 'back')))),
                            (('link live x',), ('warm', ((0, 'x'), (0, 'live')), ((0, 'back'),))),
                            (('link back x',), ('dark', ((0, 'live'),))),
                            (('link live x', 'link y back'), ('lit', ((0, 'x'), (0, 'live')), ((0, 'y'), (0, 'back')),
                                                              ((0, 'live'), (0, 'x'))))):
            text = '\n'.join(['wires 1', 'kind k', *['  ' + line for line in lines], '  lamp l x y', 'house k'])
            house = House(Book(text), (('k', ()),))
            self.assertEqual(burns(house, 0, 'l'), told)
            self.assertIs(shows_burns(house, 0, 'l', told), True)

    def test_a_shore_of_another_landing(self):
        house = House(Book(HALL), (('foot', (0,)), ('stair', (1,)), ('head', (1,))))
        self.assertEqual(burns(house, 1, 'l')[0], 'lit')
        self.assertEqual(burns(house.turned(2, 's'), 0, 'l')[0], 'dark')

    def test_a_house_of_sixty_landings(self):
        house = House(Book(HALL), (('foot', (0,)),) + (('stair', (1,)), ('stair', (0,))) * 29 + (('head', (1,)),))
        for number in (0, 30, 59):
            value = burns(house, number, 'l')
            self.assertEqual(value[0], 'lit')
            self.assertIs(shows_burns(house, number, 'l', value), True)
            dark = burns(house.turned(7, 's'), number, 'l')
            self.assertEqual(dark[0], 'dark')
            self.assertIs(shows_burns(house.turned(7, 's'), number, 'l', dark), True)
            self.assertIs(shows_burns(house, number, 'l', dark), False)


class ShownTest(unittest.TestCase):

    def check_shown(self, slow, number, lamp, value):
        """Check that a value is found to be right or wrong as the document tells."""
        house = House(slow.book, slow.landings)
        self.assertIs(shows_burns(house, number, lamp, value), is_right(slow, number, lamp, value), (slow.landings, value))

    def test_longer_rows(self):
        for slow, number, lamp in drawn_lamps(3):
            value = burns(House(slow.book, slow.landings), number, lamp)
            for at, row in enumerate(value[1:], 1):
                if value[0] == 'dark' or value[0] in ('warm', 'lit') and at == len(value) - 1:
                    continue
                beside = [place for place in slow.places if frozenset((row[-1], place)) in slow.pairs]
                longer = [row + (place, row[-1]) for place in beside] + [row + row[-2::-1] + row[1:]]
                for more in longer:
                    self.assertIs(shows_burns(House(slow.book, slow.landings), number, lamp,
                                              value[:at] + (more,) + value[at + 1:]), True)
                self.check_shown(slow, number, lamp, value[:at] + (row + row[-1:],) + value[at + 1:])

    def test_larger_shores(self):
        some = 0
        for slow, number, lamp in drawn_lamps(3):
            value = burns(House(slow.book, slow.landings), number, lamp)
            if value[0] != 'short':
                for more in shores_of(slow):
                    shore = tuple(sorted({*value[-1], *more}))
                    self.check_shown(slow, number, lamp, value[:-1] + (shore,))
                    some += shows_burns(House(slow.book, slow.landings), number, lamp, value[:-1] + (shore,))
        self.assertGreater(some, 50)

    def test_all_shores(self):
        slow = SlowHouse(Book(OLD), (('foot', (0,)), ('head', (0,))))
        shores = shores_of(slow)
        way = ((0, 'x'), (0, 'live'))
        for count in range(len(shores) + 1):
            for some in itertools.combinations(shores, count):
                shore = tuple(sorted(place for part in some for place in part))
                for value in (('dark', shore), ('warm', way, shore), ('lit', way, way, shore), ('short', shore)):
                    self.check_shown(slow, 0, 'l', value)

    def test_rows_cut_short_or_turned_about(self):
        for slow, number, lamp in drawn_lamps(2):
            value = burns(House(slow.book, slow.landings), number, lamp)
            for at, part in enumerate(value[1:], 1):
                for moved in [*moved_values(part), part[::-1], part[:-1], part[1:], (), part + part, part[:1], part[-1:]]:
                    self.check_shown(slow, number, lamp, value[:at] + (moved,) + value[at + 1:])

    def test_parts_in_another_sequence(self):
        for slow, number, lamp in drawn_lamps(2):
            value = burns(House(slow.book, slow.landings), number, lamp)
            for parts in itertools.permutations(value[1:]):
                self.check_shown(slow, number, lamp, (value[0], *parts))
            self.check_shown(slow, number, lamp, value[:-1])
            self.check_shown(slow, number, lamp, value + value[-1:])

    def test_other_words(self):
        for slow, number, lamp in drawn_lamps(2):
            value = burns(House(slow.book, slow.landings), number, lamp)
            for word in LENGTHS:
                self.check_shown(slow, number, lamp, (word, *value[1:]))
            for parts in (value[1:3], value[2:], value[-1:], value[1:2] + value[-1:]):
                for word in LENGTHS:
                    self.check_shown(slow, number, lamp, (word, *parts))

    def test_the_row_from_the_other_end_begins_at_the_other_end(self):
        house = House(Book('wires 1\nkind k\n  lamp l live back\n  lamp m x back\n  link x live\nhouse k'), (('k', ()),))
        live = tuple(sorted([(0, 'live'), (0, 'x')]))
        self.assertIs(shows_burns(house, 0, 'm', ('lit', ((0, 'x'), (0, 'live')), ((0, 'back'),), live)), True)
        self.assertIs(shows_burns(house, 0, 'm', ('lit', ((0, 'live'),), ((0, 'back'),), live)), False)
        self.assertIs(shows_burns(house, 0, 'm', ('lit', ((0, 'back'),), ((0, 'x'), (0, 'live')), live)), False)
        self.assertIs(shows_burns(house, 0, 'm', ('lit', ((0, 'back'),), ((0, 'back'),), live)), False)
        self.assertIs(shows_burns(house, 0, 'm', ('warm', ((0, 'x'), (0, 'live')), ((0, 'back'),))), False)

    def test_a_lit_shore_may_hold_no_back_but_ends(self):
        house = House(Book(OLD), (('foot', (0,)), ('head', (1,))))
        value = burns(house, 0, 'l')
        self.assertEqual(value[0], 'lit')
        self.assertIn((0, 'x'), value[3])
        self.assertIs(shows_burns(house, 0, 'l', value[:3] + (tuple(sorted([*value[3], (0, 'b1')])),)), True)
        self.assertIs(shows_burns(house, 0, 'l', value[:3] + (tuple(sorted([*value[3], (1, 'a1')])),)), True)
        self.assertIs(shows_burns(house, 0, 'l', value[:3] + (tuple(sorted([*value[3], (1, 'b1')])),)), False)
        self.assertIs(shows_burns(house, 0, 'l', value[:3] + (value[3] + ((1, 'x'),),)), False)

    def test_any_values(self):
        for book, landings in ((Book(OLD), (('foot', (0,)), ('head', (0,)))), (Book(MIXED), (('mid', (0, 0, 0)), ('low', (0, 1))))):
            house = House(book, landings)
            number = 0 if book == Book(OLD) else 1
            for value in any_values():
                for told in (value, (value,), (value, value), *[(word, value) for word in LENGTHS],
                             *[(word, value, value) for word in LENGTHS], *[(word, value, value, value) for word in LENGTHS],
                             *[(word, (value,)) for word in LENGTHS], *[(word, (value,), (value,)) for word in LENGTHS],
                             *[(word, ((0, value),)) for word in LENGTHS], *[(word, ((value, 'live'),)) for word in LENGTHS]):
                    if told != ('dark', ((0, 'live'),)):
                        self.assertIs(shows_burns(house, number, 'l', told), False, told)

    def test_bent_values(self):
        for slow, number, lamp in drawn_lamps(1):
            house = House(slow.book, slow.landings)
            value = burns(house, number, lamp)
            for bent in bent_values(value):
                self.assertIs(shows_burns(house, number, lamp, bent), False, bent)

    def test_arguments_by_name(self):
        house = House(Book(OLD), (('foot', (0,)), ('head', (0,))))
        value = burns(lamp='l', number=0, house=house)
        self.assertEqual(value, burns(house, 0, 'l'))
        self.assertIs(shows_burns(value=value, lamp='l', number=0, house=house), True)

    def test_wrong_arguments(self):
        house = House(Book(OLD), (('foot', (0,)), ('head', (0,))))
        for value in any_values():
            if value.__class__ is not int or not 0 <= value < 2:
                check_raises(self, NoLanding, value, burns, house, value, 'l')
                check_raises(self, NoLanding, value, burns, house, value, None)
                check_raises(self, NoLanding, value, shows_burns, house, value, [], None)
            check_raises(self, NoLamp, value, burns, house, 0, value)
            check_raises(self, NoLamp, value, shows_burns, house, 0, value, ('dark', ()))
        check_raises(self, NoLamp, 'l', burns, house, 1, 'l')
        check_raises(self, NoLamp, 'l', shows_burns, house, 1, 'l', None)


if __name__ == '__main__':
    unittest.main()
