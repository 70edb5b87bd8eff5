"""Points 2, 3 and 13: by how many positions a house is short, or a lamp of it has a word."""

import itertools
import random
import unittest

from landingwires.books import Book
from landingwires.counting import many, shorts
from landingwires.errors import BadKinds, BadWord, NoLamp, NoLanding
from samples import HALL, MIXED, OLD, SMALL, SlowHouse, all_positions, any_values, check_raises, lots_of_books

WORDS = ('short', 'lit', 'warm', 'dark')
BOOKS = [Book(OLD), Book(HALL), Book(MIXED), *lots_of_books(1, 12, 12), *lots_of_books(2, 8, 12), *lots_of_books(3, 3, 12)]


def drawn_kinds(book, lots, most):
    """The kinds of the landings of a house with at most so many switches, and one landing at least."""
    while True:
        kinds = tuple(kind for kind, starred in book.order for _ in range(lots.randrange(4) if starred else 1))
        if kinds and sum(len(book.switches(kind)) for kind in kinds) <= most:
            return kinds


def slow_houses(book, kinds):
    """The houses by all positions."""
    return [SlowHouse(book, tuple(zip(kinds, positions)))
            for positions in itertools.product(*[all_positions(book, kind) for kind in kinds])]


def switches_of(book, kinds):
    """How many switches all landings have together."""
    return sum(len(book.switches(kind)) for kind in kinds)


class CountingTest(unittest.TestCase):

    def test_against_all_positions(self):
        lots, counts = random.Random(8), {}
        for book in BOOKS:
            for _ in range(2):
                kinds = drawn_kinds(book, lots, 9 if book.wires < 3 else 6)
                slows = slow_houses(book, kinds)
                self.assertEqual(shorts(book, kinds), sum(slow.is_so(0, ('short',)) for slow in slows))
                for number, kind in enumerate(kinds):
                    for lamp in book.lamps(kind):
                        told = [slow.word(number, lamp) for slow in slows]
                        for word in WORDS:
                            found = many(book, kinds, number, lamp, word)
                            self.assertEqual(found, told.count(word), (book.text, kinds, number, lamp, word))
                            counts[word] = counts.get(word, 0) + found
        self.assertGreater(min(counts.values()), 20)

    def test_all_words_together_are_all_positions(self):
        lots = random.Random(9)
        for book in [*BOOKS, *lots_of_books(4, 4, 12)]:
            kinds = drawn_kinds(book, lots, 60)
            for number, kind in enumerate(kinds):
                for lamp in book.lamps(kind):
                    found = [many(book, kinds, number, lamp, word) for word in WORDS]
                    self.assertEqual(sum(found), 2 ** switches_of(book, kinds))
                    self.assertEqual(found[0], shorts(book, kinds))
                    self.assertEqual({told.__class__ for told in found}, {int})

    def test_three_hundred_landings(self):
        kinds = ('foot',) + ('stair',) * 298 + ('head',)
        hall = Book(HALL)
        for number in (0, 1, 150, 298, 299):
            found = [many(hall, kinds, number, 'l', word) for word in WORDS]
            self.assertEqual(found, [0, 2 ** 64 * 2 ** 64 * 2 ** 64 * 2 ** 64 * 2 ** 43, 0, 2 ** 299])
        self.assertEqual(shorts(hall, kinds), 0)

    def test_great_numbers_are_exact(self):
        # The chain of switches leads live on to the lamp by one position only; a switch more may make it short.
        book = Book('wires 1\nkind foot\n  link live a1\nkind up\n  switch s b1 x\n  switch t x y\n  switch u y a1\nkind top\n'
                    '  lamp l b1 back\nkind end\n  switch s b1 back\n  lamp l b1 back\nhouse foot up* top')
        for count in (0, 1, 7, 298):
            kinds = ('foot',) + ('up',) * count + ('top',)
            self.assertEqual(many(book, kinds, count + 1, 'l', 'lit'), 1)
            self.assertEqual(many(book, kinds, count + 1, 'l', 'dark'), 8 ** count - 1)
        ends = book.put(len(book), 'house foot up* end')
        kinds = ('foot',) + ('up',) * 298 + ('end',)
        found = [many(ends, kinds, 299, 'l', word) for word in WORDS]
        self.assertEqual(found, [1, 1, 0, 2 * 8 ** 298 - 2])
        self.assertEqual(shorts(ends, kinds), 1)

    def test_a_house_without_switches(self):
        book = Book('wires 1\nkind a\n  link live a1\nkind b\n  lamp l b1 back\nhouse a* b')
        self.assertEqual(many(book, ('a', 'b'), 1, 'l', 'lit'), 1)
        self.assertEqual(many(book, ('b',), 0, 'l', 'lit'), 0)
        self.assertEqual(many(book, ('b',), 0, 'l', 'dark'), 1)
        self.assertEqual(shorts(book, ('a', 'a', 'b')), 0)
        self.assertEqual(shorts(Book('wires 1\nkind a\n  link live back\nhouse a*'), ('a',) * 5), 1)

    def test_what_comes_from_above(self):
        book = Book('wires 2\nkind a\n  lamp l b1 a1\n  switch s a1 back\n  link b1 b2\nkind b\n  turn s live b1 b2\nhouse a a b')
        kinds = ('a', 'a', 'b')
        for number in (0, 1):
            told = [slow.word(number, 'l') for slow in slow_houses(book, kinds)]
            self.assertEqual([many(book, kinds, number, 'l', word) for word in WORDS], [told.count(word) for word in WORDS])

    def test_upside_down(self):
        lots = random.Random(10)
        for book in BOOKS:
            kinds = drawn_kinds(book, lots, 30)
            self.assertEqual(shorts(book, kinds), shorts(~book, kinds[::-1]))
            for number, kind in enumerate(kinds):
                for lamp in book.lamps(kind):
                    for word in WORDS:
                        self.assertEqual(many(book, kinds, number, lamp, word),
                                         many(~book, kinds[::-1], len(kinds) - 1 - number, lamp, word))

    def test_names_exchanged(self):
        other = Book(HALL.replace('foot', 'zz').replace('stair', 'foot').replace('head', 'a').replace('lamp l', 'lamp s'))
        for word in WORDS:
            self.assertEqual(many(Book(HALL), ('foot', 'stair', 'stair', 'head'), 2, 'l', word),
                             many(other, ('zz', 'foot', 'foot', 'a'), 2, 's', word))
        self.assertEqual(shorts(Book(HALL), ('foot', 'head')), shorts(other, ('zz', 'a')))

    def test_a_link_more(self):
        lots = random.Random(11)
        for book in BOOKS[3:]:
            kinds = drawn_kinds(book, lots, 20)
            number = book.text.split('\n').index('kind k') + 1
            more = book.put(number, 'kind k\n  link b1 live')
            self.assertLessEqual(shorts(book, kinds), shorts(more, kinds))

    def test_arguments_by_name_and_again(self):
        kinds = ('foot', 'head')
        self.assertEqual(many(word='warm', lamp='l', number=0, kinds=kinds, book=Book(OLD)), 1)
        self.assertEqual(shorts(kinds=kinds, book=Book(OLD)), 0)
        self.assertEqual([many(Book(OLD), kinds, 0, 'l', word) for word in WORDS], [0, 2, 1, 1])
        self.assertEqual(kinds, ('foot', 'head'))


class ErrorsTest(unittest.TestCase):

    def check_bad_kinds(self, book, kinds):
        check_raises(self, BadKinds, kinds, shorts, book, kinds)
        check_raises(self, BadKinds, kinds, shorts, kinds=kinds, book=book)
        for number, lamp, word in ((0, 'l', 'lit'), (None, None, None), (-1, [], ())):
            check_raises(self, BadKinds, kinds, many, book, kinds, number, lamp, word)

    def test_bad_kinds(self):
        book = Book(OLD)
        for value in any_values():
            for kinds in (value, (value,), ('foot', value), (value, 'head'), ('foot', 'head', value), (value, 'foot', 'head')):
                if kinds != ('foot', 'head'):
                    self.check_bad_kinds(book, kinds)
        for kinds in (['foot', 'head'], ('head', 'foot'), ('foot',), ('head',), ('foot', 'foot', 'head'), ('foot', 'head') * 2,
                      'foot', ('foothead',), {'foot': 1, 'head': 2}, (('foot', (0,)), ('head', (0,))), (('foot', 'head'),),
                      ('FOOT', 'head'), ('foot ', 'head')):
            self.check_bad_kinds(book, kinds)

    def test_kinds_of_starred_items_and_of_none(self):
        book = Book('wires 1\nkind a\nkind b\nkind c\nkind out\nhouse a* b a* c*')
        for kinds in (('b',), ('a', 'b'), ('b', 'a'), ('b', 'c'), ('a', 'a', 'b', 'a', 'a', 'c', 'c')):
            self.assertEqual(shorts(book, kinds), 0)
        for kinds in ((), ('a',), ('c',), ('a', 'c'), ('b', 'b'), ('b', 'c', 'a'), ('c', 'b'), ('b', 'out'), ('out',)):
            self.check_bad_kinds(book, kinds)

    def test_three_hundred_kinds_and_one_more(self):
        book = Book(SMALL)
        self.assertEqual(shorts(book, ('foot',) * 300), 0)
        self.check_bad_kinds(book, ('foot',) * 301)
        hall = Book(HALL)
        self.assertEqual(shorts(hall, ('foot',) + ('stair',) * 298 + ('head',)), 0)
        self.check_bad_kinds(hall, ('foot',) + ('stair',) * 299 + ('head',))

    def test_no_landing(self):
        kinds = ('foot', 'stair', 'head')
        for value in [*any_values(), 3, -3, 2.0, '0']:
            if not (value.__class__ is int and 0 <= value < 3):
                check_raises(self, NoLanding, value, many, Book(HALL), kinds, value, 'l', 'lit')
                check_raises(self, NoLanding, value, many, Book(HALL), kinds, value, None, None)
                check_raises(self, NoLanding, value, many, word='', lamp='', number=value, kinds=kinds, book=Book(HALL))

    def test_no_lamp(self):
        kinds = ('foot', 'head')
        for value in any_values():
            check_raises(self, NoLamp, value, many, Book(OLD), kinds, 0, value, 'lit')
            check_raises(self, NoLamp, value, many, Book(OLD), kinds, 1, value, None)
        check_raises(self, NoLamp, 'l', many, Book(OLD), kinds, 1, 'l', 'lit')
        check_raises(self, NoLamp, 's', many, Book(OLD), kinds, 0, 's', 'bright')

    def test_bad_word(self):
        kinds = ('foot', 'head')
        for value in [*any_values(), 'Lit', 'lit ', ('lit',), ['lit'], 'bright', 'LIT', 'joined']:
            check_raises(self, BadWord, value, many, Book(OLD), kinds, 0, 'l', value)

    def test_two_wrong_at_once(self):
        kinds = ['foot', 'head']
        check_raises(self, BadKinds, kinds, many, Book(OLD), kinds, 7, 'm', 'bright')
        check_raises(self, NoLanding, 7, many, Book(OLD), ('foot', 'head'), 7, 'm', 'bright')
        check_raises(self, NoLamp, 'm', many, Book(OLD), ('foot', 'head'), 0, 'm', 'bright')


if __name__ == '__main__':
    unittest.main()
