"""Points 2, 3 and 6: houses."""

import itertools
import random
import unittest

from landingwires.books import Book
from landingwires.errors import BadLandings, BadPlace, NoLamp, NoLanding, NoSwitch
from landingwires.houses import House
from landingwires.standings import Standing
from samples import (HALL, MIXED, OLD, SMALL, SlowHouse, all_landings, all_positions, any_values, check_raises,
                     lots_of_books, points_of)

BOOKS = [Book(OLD), *lots_of_books(1, 12), *lots_of_books(2, 10), *lots_of_books(3, 3), *lots_of_books(4, 2)]
HALL_LANDINGS = (('foot', (0,)), ('stair', (1,)), ('head', (1,)))
# Wire 1 goes up to the top, over a switch there, and down by wire 2 to the lamp at the foot.
LOOP = Book('\n'.join([
    'wires 2', 'kind foot', '  link live a1', '  lamp l a2 back', 'kind mid', '  link b1 a1', '  link b2 a2',
    'kind top', '  switch s b1 b2', 'house foot mid* top']))


def drawn_houses(most=3, each=6):
    """Some houses of each book, drawn by lot."""
    lots = random.Random(6)
    for book in BOOKS:
        found = all_landings(book, most)
        for landings in lots.sample(found, min(each, len(found))):
            yield book, landings


def one_landing(*lines, wires=1, position=()):
    """The house of one landing that has these lines."""
    return House(Book('\n'.join([f'wires {wires}', 'kind k', *lines, 'house k'])), (('k', position),))


class LandingsTest(unittest.TestCase):

    def test_all_landings_of_houses_are_kept(self):
        for book in BOOKS:
            for landings in all_landings(book, 2):
                house = House(book, landings)
                self.assertIs(house.landings, landings)
                self.assertIs(house.book, book)
                self.assertEqual(len(house), len(landings))

    def test_just_the_kinds_of_houses_are_accepted(self):
        for order in ('a', 'a*', 'a b', 'a* b', 'a b*', 'a* b*', 'a* a', 'a a* a', 'a* b* a*', 'a b* a', 'b* a* b a* b*'):
            book = Book(f'wires 1\nkind a\nkind b\nhouse {order}')
            right = {tuple(kind for kind, _ in landings) for landings in all_landings(book, 5)}
            for many in range(6):
                for kinds in itertools.product('ab', repeat=many):
                    landings = tuple((kind, ()) for kind in kinds)
                    if kinds in right:
                        self.assertEqual(House(book, landings).landings, landings)
                    else:
                        check_raises(self, BadLandings, landings, House, book, landings)

    def test_no_landing_is_no_house(self):
        check_raises(self, BadLandings, (), House, Book(SMALL), ())
        check_raises(self, BadLandings, (), House, Book('wires 1\nkind a\nhouse a* a*'), ())

    def test_other_values_than_landings(self):
        for book in (Book(SMALL), Book(HALL)):
            for value in any_values():
                check_raises(self, BadLandings, value, House, book, value)

    def test_wrong_landings(self):
        foot, stair, head = HALL_LANDINGS
        book = Book(HALL)
        self.assertEqual(len(House(book, (foot, head))), 2)
        self.assertEqual(len(House(book, (foot, stair, stair, stair, head))), 5)
        for landings in ([foot, head], (head, foot), (foot,), (head,), (stair,), (foot, stair), (stair, head),
                         (foot, head, head), (foot, foot, head), (foot, head, stair), (list(foot), head), (foot, (head,)),
                         (foot, ('head',)), (foot, ('head', (1,), 0)), (foot, ('head', [1])), (foot, ('head', ())),
                         (foot, ('head', (1, 0))), (foot, ('head', (True,))), (foot, ('head', (False,))),
                         (foot, ('head', (2,))), (foot, ('head', (-1,))), (foot, ('head', 1)), (foot, ('head', None)),
                         (foot, ('Head', (1,))), (foot, (None, (1,))), (foot, (['head'], (1,))), (foot, None),
                         (foot, 'head'), (foot, ('top', (1,))), {foot: 1}, 'foot'):
            check_raises(self, BadLandings, landings, House, book, landings)

    def test_positions_go_by_the_kind(self):
        book = Book(MIXED)
        low, mid, top = ('low', (0, 1)), ('mid', (0, 1, 0)), ('top', ())
        self.assertEqual(len(House(book, (low, mid, top, low, mid))), 5)
        for landings in ((mid, ('top', (0,)), low), (('mid', (0, 1)), low), (('low', (0, 1, 0)), mid, low),
                         (('low', (0,)), mid, low), (mid, ('low', ())), (mid, low, ('mid', (0, 1, 0, 0)))):
            check_raises(self, BadLandings, landings, House, book, landings)

    def test_arguments_by_name(self):
        house = House(landings=HALL_LANDINGS, book=Book(HALL))
        self.assertEqual(house, House(Book(HALL), HALL_LANDINGS))


class ItemsTest(unittest.TestCase):

    def test_numbers(self):
        house = House(Book(HALL), HALL_LANDINGS)
        self.assertEqual([house[number] for number in range(3)], list(HALL_LANDINGS))

    def test_numbers_of_no_landings(self):
        house = House(Book(HALL), HALL_LANDINGS)
        calls = [lambda value: house[value], lambda value: house.word(value, 'l'), lambda value: house.turned(value, 's'),
                 house.below, house.above]
        for value in [*any_values(), 3, 4, -1, -3, 10 ** 11, True, False, '0', (0,), [0], None]:
            if value.__class__ is not int or not 0 <= value < 3:
                for call in calls:
                    check_raises(self, NoLanding, value, call, value)
                check_raises(self, NoLanding, value, house.word, value, None)
                check_raises(self, NoLanding, value, house.turned, value, None)
                check_raises(self, NoLanding, value, house.turned, switch=None, number=value)

    def test_equal_by_book_and_landings(self):
        house = House(Book(HALL), HALL_LANDINGS)
        self.assertIs(house == House(Book(HALL), tuple(list(HALL_LANDINGS))), True)
        self.assertIs(house != House(Book(HALL), HALL_LANDINGS), False)
        self.assertIs(house == house.turned(0, 's'), False)
        self.assertIs(house != house.turned(0, 's'), True)
        self.assertIs(house == House(Book(HALL.replace('stair*', 'stair')), HALL_LANDINGS), False)

    def test_equal_nothing_else(self):
        house = House(Book(HALL), HALL_LANDINGS)
        for value in [*any_values(), HALL_LANDINGS, Book(HALL), list(HALL_LANDINGS)]:
            self.assertIs(house == value, False)
            self.assertIs(value == house, False)
            self.assertIs(house != value, True)


class WordTest(unittest.TestCase):

    def test_against_the_slow_reckoning(self):
        found = set()
        for book, landings in drawn_houses():
            house, slow = House(book, landings), SlowHouse(book, landings)
            lit = []
            for number, (kind, _) in enumerate(landings):
                for lamp in book.lamps(kind):
                    word = slow.word(number, lamp)
                    found.add(word)
                    self.assertEqual(house.word(number, lamp), word, (book.text, landings, number, lamp))
                    if word == 'lit':
                        lit.append((number, lamp))
            self.assertEqual(house.lit, tuple(lit))
            self.assertIs(house.is_short, slow.joined((0, 'live'), (0, 'back')))
        self.assertEqual(found, {'short', 'lit', 'warm', 'dark'})

    def test_the_four_words(self):
        for lines, word in ((['  link live back'], 'short'), (['  link live x', '  link y back'], 'lit'),
                            (['  link back x', '  link y live'], 'lit'), (['  link live x'], 'warm'),
                            (['  link live y'], 'warm'), (['  link live x', '  link x y'], 'warm'), ([], 'dark'),
                            (['  link back x'], 'dark'), (['  link back x', '  link x y'], 'dark'),
                            (['  link x y'], 'dark'), (['  link x a1', '  link b1 y'], 'dark')):
            self.assertEqual(one_landing(*lines, '  lamp l x y').word(0, 'l'), word, lines)

    def test_ends_that_are_live_back_or_wires(self):
        for line, word in (('lamp l live back', 'lit'), ('lamp l back live', 'lit'), ('lamp l live x', 'warm'),
                           ('lamp l x live', 'warm'), ('lamp l back x', 'dark'), ('lamp l a1 b1', 'dark'),
                           ('lamp l a1 live', 'warm')):
            self.assertEqual(one_landing('  ' + line).word(0, 'l'), word, line)

    def test_short_anywhere_makes_all_lamps_short(self):
        book = Book('wires 1\nkind a\n  lamp l live back\n  lamp k b1 a1\nkind b\n  switch s live back\nhouse a* b a*')
        for low, high in itertools.product(range(3), repeat=2):
            for turned in (0, 1):
                house = House(book, (('a', ()),) * low + (('b', (turned,)),) + (('a', ()),) * high)
                self.assertIs(house.is_short, turned == 1)
                for number in [*range(low), *range(low + 1, low + 1 + high)]:
                    self.assertEqual([house.word(number, 'l'), house.word(number, 'k')],
                                     ['short', 'short'] if turned else ['lit', 'dark'])
                self.assertEqual(len(house.lit), 0 if turned else low + high)

    def test_short_by_wires_of_several_landings(self):
        book = Book('wires 1\nkind a\n  turn s b1 live back\nkind b\n  turn s a1 live back\nhouse b a')
        for low, high in itertools.product((0, 1), repeat=2):
            self.assertIs(House(book, (('b', (low,)), ('a', (high,)))).is_short, low != high)

    def test_wires_that_go_up_and_come_down_again(self):
        for mids in (0, 1, 7, 30):
            for turned in (0, 1):
                house = House(LOOP, (('foot', ()),) + (('mid', ()),) * mids + (('top', (turned,)),))
                self.assertEqual(house.word(0, 'l'), 'lit' if turned else 'dark')
                self.assertEqual(house.joined((0, 'live'), (mids // 2, 'a2')), turned == 1)
                self.assertEqual((~house).word(mids + 1, 'l'), 'lit' if turned else 'dark')

    def test_a_house_of_sixty_landings(self):
        house = House(Book(HALL), (('foot', (0,)),) + (('stair', (1,)), ('stair', (0,))) * 29 + (('head', (1,)),))
        self.assertEqual([len(house), len(house.lit)], [60, 60])
        self.assertEqual([len(house.turned(number, 's').lit) for number in (0, 1, 30, 59)], [0] * 4)
        self.assertIs(house.joined((0, 'live'), (59, 'b3')), True)
        self.assertEqual(house.turned(17, 's').turned(42, 's').lit, house.lit)
        self.assertEqual([house.word(33, 'l'), house.turned(58, 's').word(0, 'l')], ['lit', 'dark'])

    def test_several_lamps_stand_by_landings_then_by_the_text(self):
        book = Book('wires 1\nkind a\n  lamp z live back\n  lamp m x back\n  lamp b back live\nhouse a*')
        self.assertEqual(House(book, (('a', ()),) * 2).lit, ((0, 'z'), (0, 'b'), (1, 'z'), (1, 'b')))

    def test_no_lamp(self):
        house = House(Book(HALL), HALL_LANDINGS)
        for value in [*any_values(), 's', 'L', 'l ', ('l',), ['l']]:
            check_raises(self, NoLamp, value, house.word, 1, value)
            check_raises(self, NoLamp, value, house.word, lamp=value, number=1)
        self.assertEqual(house.word(lamp='l', number=1), 'lit')

    def test_a_lamp_of_another_landing_is_none(self):
        house = House(Book(OLD), (('foot', (0,)), ('head', (0,))))
        check_raises(self, NoLamp, 'l', house.word, 1, 'l')


class JoinedTest(unittest.TestCase):

    def test_against_the_slow_reckoning(self):
        for book, landings in drawn_houses(each=3):
            house, slow = House(book, landings), SlowHouse(book, landings)
            for one in slow.places:
                for other in slow.places:
                    self.assertIs(house.joined(one, other), slow.joined(one, other), (book.text, landings, one, other))

    def test_places_that_do_not_stand_in_the_text(self):
        house = House(Book('wires 2\nkind a\nkind b\n  link x y\nhouse a* b'), (('a', ()), ('b', ())))
        for point in ('a1', 'a2', 'b1', 'b2', 'live', 'back'):
            self.assertIs(house.joined((0, point), (0, point)), True)
        for one, other, joined in (((0, 'a1'), (1, 'b1'), True), ((0, 'a2'), (1, 'b2'), True), ((0, 'a1'), (1, 'b2'), False),
                                   ((0, 'live'), (1, 'live'), True), ((1, 'back'), (0, 'back'), True),
                                   ((0, 'live'), (1, 'back'), False), ((1, 'x'), (1, 'y'), True),
                                   ((1, 'a1'), (0, 'b1'), False), ((0, 'a1'), (0, 'b1'), False)):
            self.assertIs(house.joined(one, other), joined)

    def test_inner_points_of_unlike_landings_are_unlike(self):
        house = House(Book('wires 1\nkind a\n  link x b1\nhouse a*'), (('a', ()), ('a', ())))
        self.assertIs(house.joined((0, 'x'), (1, 'x')), False)
        self.assertIs(house.joined((1, 'x'), (0, 'a1')), True)

    def test_no_places(self):
        house = House(Book('wires 2\nkind a\n  link x b1\nkind b\n  link y b1\nhouse a b'), (('a', ()), ('b', ())))
        right = (0, 'x')
        for value in [*any_values(), (0, 'y'), (1, 'x'), (2, 'x'), (-1, 'y'), (True, 'y'), (False, 'x'), [0, 'x'], (0,), (0, 'b3'),
                      (0, 'a0'), (0, 'a'), ('x', 0), (0, 'x', 0), (0, ['x']), (0, None), (None, 'x'), (0, 'Live'),
                      ((0,), 'x'), (0, 's')]:
            check_raises(self, BadPlace, value, house.joined, value, right)
            check_raises(self, BadPlace, value, house.joined, right, value)
            check_raises(self, BadPlace, value, house.joined, value, None)
            check_raises(self, BadPlace, value, house.joined, other=(5, 'x'), one=value)

    def test_names_of_switches_and_lamps_are_no_places(self):
        house = House(Book(HALL), HALL_LANDINGS)
        for value in ((0, 's'), (0, 'l'), (0, 'x')):
            check_raises(self, BadPlace, value, house.joined, value, (0, 'live'))


class PartsTest(unittest.TestCase):

    def test_against_the_slow_reckoning(self):
        for book, landings in drawn_houses():
            house = House(book, landings)
            for number in range(len(landings)):
                for standing, part, at, side in (
                        (house.below(number), landings[:number], number - 1, 'a'),
                        (house.above(number), landings[number + 1:], 0, 'b')):
                    self.assertEqual(standing.marks, self.slow_marks(book, part, at, side), (book.text, landings, number))

    def slow_marks(self, book, part, at, side):
        """The marks of what hangs together of the wires at one side of a landing, by some landings alone."""
        if not part:
            return tuple(range(book.wires + 2))
        things = [(at, f'{side}{wire + 1}') for wire in range(book.wires)] + [(0, 'live'), (0, 'back')]
        slow = SlowHouse(book, part)
        return tuple(min(at for at, other in enumerate(things) if slow.joined(thing, other)) for thing in things)

    def test_the_ends_are_bare(self):
        for book, landings in drawn_houses(each=2):
            house = House(book, landings)
            self.assertEqual(house.below(0), Standing.bare(book.wires))
            self.assertEqual(house.above(len(house) - 1), Standing.bare(book.wires))

    def test_between_two_landings_hangs_together_what_does_by_both_parts(self):
        for book, landings in drawn_houses():
            house = House(book, landings)
            for number in range(1, len(landings)):
                both = house.below(number) | house.above(number - 1)
                things = [(number, f'b{wire + 1}') for wire in range(book.wires)] + [(0, 'live'), (number, 'back')]
                for (one, first), (other, second) in itertools.product(enumerate(things), repeat=2):
                    self.assertIs((one, other) in both, house.joined(first, second))

    def test_numbers_by_name(self):
        house = House(Book(HALL), HALL_LANDINGS)
        self.assertEqual(house.below(number=2).marks, (0, 1, 2, 1, 4))
        self.assertEqual(house.above(number=0).marks, (0, 1, 0, 3, 4))


class TurnedTest(unittest.TestCase):

    def test_each_switch(self):
        for book, landings in drawn_houses(each=3):
            house = House(book, landings)
            for number, (kind, position) in enumerate(landings):
                for at, switch in enumerate(book.switches(kind)):
                    other = house.turned(number, switch)
                    turned = (kind, position[:at] + (1 - position[at],) + position[at + 1:])
                    self.assertEqual(other.landings, landings[:number] + (turned,) + landings[number + 1:])
                    self.assertEqual(other.book, book)
                    self.assertEqual(other.turned(number=number, switch=switch), house)
                    self.assertIs(house.landings, landings)

    def test_no_switch(self):
        house = House(Book(MIXED), (('mid', (0, 1, 0)), ('top', ()), ('low', (0, 0))))
        for value in [*any_values(), 'v', 'l', 'S', ('s',), ['s'], 0]:
            check_raises(self, NoSwitch, value, house.turned, 0, value)
            check_raises(self, NoSwitch, value, house.turned, switch=value, number=1)
        check_raises(self, NoSwitch, 's', house.turned, 1, 's')


class UpsideDownTest(unittest.TestCase):

    def test_the_same_words_and_lit_lamps(self):
        for book, landings in drawn_houses():
            house = House(book, landings)
            down = ~house
            last = len(landings) - 1
            self.assertEqual([down.book, down.landings], [~book, landings[::-1]])
            self.assertEqual(~down, house)
            self.assertEqual(sorted((last - number, lamp) for number, lamp in down.lit), sorted(house.lit))
            self.assertIs(down.is_short, house.is_short)
            for number, (kind, _) in enumerate(landings):
                for lamp in book.lamps(kind):
                    self.assertEqual(down.word(last - number, lamp), house.word(number, lamp))
                self.assertEqual(down.below(last - number), house.above(number))
                self.assertEqual(down.above(last - number), house.below(number))


class MoreJoinedTest(unittest.TestCase):

    def test_a_link_more(self):
        lots = random.Random(7)
        for book, landings in drawn_houses(most=2, each=4):
            name = landings[0][0]
            points = lots.sample(points_of(book, name), 2)
            number = book.text.split('\n').index('kind ' + name) + 1
            more = book.put(number, f"kind {name}\n  link {' '.join(points)}")
            one, other, slow = House(book, landings), House(more, landings), SlowHouse(book, landings)
            for first, second in itertools.combinations(slow.places, 2):
                if one.joined(first, second):
                    self.assertIs(other.joined(first, second), True)
            for at, (kind, _) in enumerate(landings):
                self.assertTrue(one.below(at).within(other.below(at)))
                self.assertTrue(one.above(at).within(other.above(at)))
                if kind == name:
                    self.assertIs(other.joined((at, points[0]), (at, points[1])), True)


class NamesTest(unittest.TestCase):

    def test_names_exchanged(self):
        names = {'foot': 'l', 'head': 'x', 'x': 's', 's': 'head', 'l': 'foot'}
        text = '\n'.join(' '.join([words[0], *[names.get(word, word) for word in words[1:]]])
                         for words in [line.split(' ') if line[0] != ' ' else ['  ' + line.split()[0], *line.split()[1:]]
                                       for line in OLD.split('\n')])
        one, other = Book(OLD), Book(text)
        self.assertEqual(other[3], '  turn head s live back')
        for landings in all_landings(one, 2):
            told = tuple((names[kind], position) for kind, position in landings)
            house, exchanged = House(one, landings), House(other, told)
            self.assertEqual(exchanged.word(0, 'foot'), house.word(0, 'l'))
            self.assertEqual(exchanged.lit, tuple((number, names[lamp]) for number, lamp in house.lit))
            self.assertEqual(exchanged.turned(1, 'head').lit, tuple((number, 'foot') for number, _ in house.turned(1, 's').lit))
            self.assertEqual([exchanged.below(1), exchanged.above(0)], [house.below(1), house.above(0)])


class HallTest(unittest.TestCase):

    def test_each_switch_turns_all_lamps(self):
        book = Book(HALL)
        for landings in all_landings(book, 4):
            house = House(book, landings)
            lit = house.lit
            self.assertIn(len(lit), (0, len(landings)))
            for number in range(len(landings)):
                self.assertEqual(len(house.turned(number, 's').lit), len(landings) - len(lit))
        self.assertEqual(len(all_positions(book, 'stair')), 2)


if __name__ == '__main__':
    unittest.main()
