"""Points 2, 3 and 12: which books fit what was tried, and a shortest house by which they part."""

import itertools
import random
import unittest

from landingwires.books import Book
from landingwires.errors import BadBooks, BadTrials, TooMany
from landingwires.houses import House
from landingwires.telling import fitting, parting, shows_parting
from samples import (HALL, MIXED, OLD, SMALL, SlowHouse, all_landings, any_values, bent_values, check_raises,
                     lots_of_books, moved_values, redrawn)
from test_comparing import MANY, MANY_LINE

HALLS = (Book(HALL), Book(HALL).put(6, '  cross s b1 a2 b2 a1'), Book(HALL).put(7, '  link b3 a1'))
HOUSE = House(HALLS[0], (('foot', (0,)), ('stair', (1,)), ('head', (1,))))
TWO_LAMPS = Book('wires 1\nkind a\n  switch s live x\n  lamp l x back\n  lamp k x back\nkind b\n  lamp m b1 back\nhouse a* b')


def rows_of_books():
    """Tuples of books of one form, drawn by lot, some of them equal."""
    lots = random.Random(6)
    for book in [Book(OLD), Book(HALL), TWO_LAMPS, *lots_of_books(1, 8, 11), *lots_of_books(2, 4, 11)]:
        for many in (1, 2, 3, 6):
            row = [book]
            while len(row) < many:
                row.append(lots.choice([lots.choice(row), redrawn(book, lots), redrawn(book, lots, 2)]))
            yield tuple(row)


ROWS = list(rows_of_books())


def lit_by(books, landings):
    """The lamps that are lit by each of the books."""
    return [SlowHouse(book, landings).lit() for book in books]


def slow_groups(books, landings):
    """The numbers of the books by the lamps that are lit."""
    groups = {}
    for number, lit in enumerate(lit_by(books, landings)):
        groups.setdefault(lit, []).append(number)
    return tuple(sorted(tuple(group) for group in groups.values()))


def fewest_parting(books, most=3):
    """The landings of the shortest houses by which not the same lamps are lit."""
    found = [landings for landings in all_landings(books[0], most) if len(set(lit_by(books, landings))) > 1]
    return [landings for landings in found if len(landings) == len(found[0])]


class FittingTest(unittest.TestCase):

    def test_against_slow_houses(self):
        lots, sizes = random.Random(7), set()
        for books in ROWS:
            houses = all_landings(books[0], 3)
            for many in (1, 2, 5, 12):
                truth = lots.choice(books)
                trials = tuple((landings, SlowHouse(truth, landings).lit())
                               for landings in [lots.choice(houses) for _ in range(many)])
                right = tuple(number for number, book in enumerate(books)
                              if all(SlowHouse(book, landings).lit() == lit for landings, lit in trials))
                self.assertEqual(fitting(books, trials), right)
                self.assertIn(truth, [books[number] for number in right])
                sizes.add(len(right))
        self.assertGreater(len(sizes), 3)

    def test_none_one_and_several(self):
        self.assertEqual(fitting(HALLS, ((HOUSE.landings, HOUSE.lit),)), (0,))
        self.assertEqual(fitting(HALLS, ((HOUSE.landings, ()),)), (1,))
        self.assertEqual(fitting(HALLS, ((HOUSE.landings, ((1, 'l'),)),)), ())
        self.assertEqual(fitting(HALLS, ((HOUSE.landings, HOUSE.lit), (HOUSE.landings, ()))), ())
        short = (('foot', (0,)), ('head', (1,)))
        self.assertEqual(fitting(HALLS, ((short, House(HALLS[0], short).lit),)), (0, 1, 2))
        self.assertEqual(fitting(HALLS + HALLS, ((HOUSE.landings, HOUSE.lit),)), (0, 3))

    def test_no_trials(self):
        for books in ROWS:
            self.assertEqual(fitting(books, ()), tuple(range(len(books))))

    def test_twelve_and_thirteen_trials(self):
        trial = (HOUSE.landings, HOUSE.lit)
        self.assertEqual(fitting(HALLS, (trial,) * 12), (0,))
        trials = (trial,) * 13
        check_raises(self, BadTrials, trials, fitting, HALLS, trials)

    def test_other_lamps_are_not_lit(self):
        landings = (('a', (1,)), ('a', (0,)), ('b', ()))
        self.assertEqual(fitting((TWO_LAMPS,), ((landings, ((0, 'l'), (0, 'k'))),)), (0,))
        for lit in ((), ((0, 'l'),), ((0, 'k'),), ((1, 'l'),), ((0, 'l'), (0, 'k'), (2, 'm')), ((2, 'm'),),
                    ((0, 'l'), (0, 'k'), (1, 'l'), (1, 'k'))):
            self.assertEqual(fitting((TWO_LAMPS,), ((landings, lit),)), ())

    def test_arguments_by_name_and_again(self):
        trials = ((HOUSE.landings, HOUSE.lit),)
        self.assertEqual(fitting(trials=trials, books=HALLS), fitting(HALLS, trials))
        self.assertEqual(fitting(tuple(Book(book.text) for book in HALLS), trials), (0,))
        self.assertEqual(trials, ((HOUSE.landings, HOUSE.lit),))


class ErrorsTest(unittest.TestCase):

    def check_bad_books(self, books):
        check_raises(self, BadBooks, books, fitting, books, ())
        check_raises(self, BadBooks, books, fitting, trials=None, books=books)
        check_raises(self, BadBooks, books, parting, books)
        check_raises(self, BadBooks, books, parting, books=books)
        check_raises(self, BadBooks, books, shows_parting, books, ('one',))
        check_raises(self, BadBooks, books, shows_parting, value=None, books=books)

    def test_bad_books(self):
        for value in any_values():
            self.check_bad_books(value)
            if value != Book(OLD):
                self.check_bad_books((Book(OLD), value))
                self.check_bad_books((value, Book(OLD)))
            if not isinstance(value, Book):
                self.check_bad_books((value,))
        for books in ((), (Book(OLD),) * 7, list(HALLS), [Book(OLD)], (HALLS,), (*HALLS, Book(OLD)), (Book(OLD), *HALLS),
                      {0: Book(OLD)}, (*HALLS, HALLS[0].put(12, 'house foot head')), (OLD,), (Book(OLD), OLD)):
            self.check_bad_books(books)
        self.assertEqual(fitting((Book(OLD),) * 6, ()), tuple(range(6)))

    def test_of_one_form_with_the_first_one(self):
        one = Book('wires 1\nkind a\n  lamp l b1 live\nkind out\n  lamp m b1 live\nhouse a')
        other = Book('wires 2\nkind a\n  lamp l b2 live\nhouse a')
        self.assertEqual([fitting((one, other), ()), parting((one, other))], [(0, 1), ('one',)])
        for line in ('  lamp m b1 live', '', '  lamp l b1 live\n  lamp m b1 live', '  lamp l b1 live\n  switch s b1 a1'):
            self.check_bad_books((one, other, one.put(3, line)))
            self.check_bad_books((one.put(3, line), one))

    def check_bad_trials(self, books, trials):
        check_raises(self, BadTrials, trials, fitting, books, trials)
        check_raises(self, BadTrials, trials, fitting, trials=trials, books=books)

    def test_bad_trials(self):
        good = (HOUSE.landings, HOUSE.lit)
        for value in any_values():
            if value != ():
                self.check_bad_trials(HALLS, value)
            self.check_bad_trials(HALLS, (value,))
            self.check_bad_trials(HALLS, (good, value))
            self.check_bad_trials(HALLS, ((value, ()),))
            self.check_bad_trials(HALLS, ((HOUSE.landings, (value,)),))
            self.check_bad_trials(HALLS, ((HOUSE.landings, ((value, 'l'), (value, 'l'))),))
            self.check_bad_trials(HALLS, ((HOUSE.landings, ((0, value),)),))
            if value != ():
                self.check_bad_trials(HALLS, ((HOUSE.landings, value),))
        for trials in ([], [good], good, ((HOUSE.landings,),), ((*good, ()),), (list(good),), ((good[1], good[0]),),
                       ((HOUSE, HOUSE.lit),), ((list(HOUSE.landings), HOUSE.lit),), ((HOUSE.landings, list(HOUSE.lit)),)):
            self.check_bad_trials(HALLS, trials)

    def test_lamps_in_another_sequence_or_twice_or_that_are_none(self):
        for moved in [*moved_values(HOUSE.lit), *moved_values(HOUSE.lit[:2])]:
            if list(moved) != sorted(set(moved)):
                self.check_bad_trials(HALLS, ((HOUSE.landings, moved),))
            else:
                self.assertNotIn(0, fitting(HALLS, ((HOUSE.landings, moved),)))
        landings = (('a', (1,)), ('b', ()))
        for lit in (((0, 'k'), (0, 'l')), ((1, 'm'), (0, 'l')), ((0, 'm'),), ((1, 'l'),), ((2, 'm'),), ((-1, 'm'),),
                    ((False, 'l'),), ((0, 'l'), (True, 'm')), ((0, 'l', 0),), ([0, 'l'],), ((0, 'l'), (0, 'l')), ((0, 's'),)):
            self.check_bad_trials((TWO_LAMPS,), ((landings, lit),))
        for lit in ((), ((0, 'l'),), ((0, 'k'),), ((0, 'l'), (0, 'k')), ((0, 'k'), (1, 'm')), ((0, 'l'), (0, 'k'), (1, 'm'))):
            self.assertIn(fitting((TWO_LAMPS,), ((landings, lit),)), ((), (0,)))

    def test_landings_that_are_no_house(self):
        for landings in ((), HOUSE.landings[:2], HOUSE.landings[1:], HOUSE.landings[::-1], HOUSE.landings * 2,
                         (('foot', (2,)), ('head', (0,))), (('foot', ()), ('head', (0,))), (('foot', (True,)), ('head', (0,))),
                         (('out', (0,)),)):
            self.check_bad_trials(HALLS, ((landings, ()),))

    def test_two_wrong_at_once(self):
        books, trials = [], []
        check_raises(self, BadBooks, books, fitting, books, trials)
        check_raises(self, BadBooks, books, fitting, trials=trials, books=books)
        many = ((HOUSE.landings, 0),) * 13
        check_raises(self, BadTrials, many, fitting, HALLS, many)

    def check_too_many(self, books):
        for call, more in ((parting, ()), (shows_parting, (None,)), (shows_parting, (('one',),)),
                           (shows_parting, (('parts', (), ()),))):
            with self.assertRaises(TooMany) as caught:
                call(books, *more)
            self.assertEqual(caught.exception.value, 1000)
            self.assertIs(caught.exception.value.__class__, int)

    def test_too_many(self):
        one = Book(MANY)
        other = one.put(*MANY_LINE)
        self.assertIs(shows_parting((one, other), parting((one, other))), True)
        one = Book(MANY + ' e')
        other = one.put(*MANY_LINE)
        parted = one.put(6, '  lamp l live back')
        self.assertEqual(parting((one, one)), ('one',))
        for books in ((one, other), (one, one, other), (one, parted, other), (other, one), (one, other, parted)):
            self.check_too_many(books)
        self.assertEqual(parting((one,)), ('one',))
        self.assertEqual(fitting((one, other), ()), (0, 1))


class PartingTest(unittest.TestCase):

    def test_against_all_houses_of_up_to_three_landings(self):
        firsts, groups = {}, set()
        for books in ROWS:
            found, fewest = parting(books), fewest_parting(books)
            firsts[found[0]] = firsts.get(found[0], 0) + 1
            if found[0] == 'one':
                self.assertEqual([found, fewest], [('one',), []])
            else:
                self.assertEqual([found[0], found[2]], ['parts', slow_groups(books, found[1])])
                self.assertGreater(len(found[2]), 1)
                groups.add(found[2])
                if fewest:
                    self.assertEqual(len(found[1]), len(fewest[0]))
                else:
                    self.assertGreater(len(found[1]), 3)
        self.assertGreater(min(firsts.values()), 10)
        self.assertGreater(len(groups), 8)

    def test_only_what_is_lit_parts(self):
        # A lamp that is warm by the one and dark by the other is lit by neither.
        one = Book('wires 1\nkind a\n  lamp l b1 live\nhouse a a')
        self.assertEqual(parting((one, one.put(3, '  lamp l b1 a1'))), ('one',))
        self.assertEqual(parting((one, one.put(3, '  lamp l back live'))), ('parts', (('a', ()), ('a', ())), ((0,), (1,))))

    def test_groups_of_two_and_more(self):
        one, other, third = HALLS
        for books in ((one, other, one), (one, one, other), (other, one, one), (one, other, other, one, one), HALLS, HALLS * 2,
                      (third, other, one, third)):
            found = parting(books)
            self.assertEqual(found[2], slow_groups(books, found[1]))
            self.assertEqual(len(found[1]), 3)
        self.assertEqual(parting((one, other, one, other))[2], ((0, 2), (1, 3)))
        self.assertEqual(parting((one,) * 6), ('one',))

    def test_as_few_landings_as_can_be_for_any_of_the_books(self):
        one = Book('wires 2\nkind foot\n  link live a1\nkind up\n  link b1 a2\nkind top\n  lamp l b2 back\n  lamp m b1 back\n'
                   'house foot up* top')
        late, early = one.put(7, '  lamp l b1 a1'), one.put(8, '  lamp m b1 a1')
        self.assertEqual([len(parting(books)[1]) for books in ((one, late), (one, early), (one, late, early), (one, early, late),
                                                               (late, one), (late, early, one))], [3, 2, 2, 2, 3, 2])
        self.assertEqual(parting((one, late, early))[2], ((0, 1), (2,)))

    def test_names_exchanged_and_upside_down(self):
        def exchanged(text):
            return text.replace('foot', 'zz').replace('stair', 'foot').replace('head', 'a').replace('lamp l', 'lamp s')

        for books in (HALLS, HALLS[:2], HALLS[:1], HALLS * 2, (HALLS[0], HALLS[0])):
            found = parting(books)
            for told in (parting(tuple(Book(exchanged(book.text)) for book in books)), parting(tuple(~book for book in books))):
                self.assertEqual([len(part) for part in found[:2]], [len(part) for part in told[:2]])

    def test_again(self):
        first = [parting(books) for books in ROWS]
        again = [parting(books=tuple(Book(book.text) for book in books)) for books in reversed(ROWS)]
        self.assertEqual(first, again[::-1])


class ShownTest(unittest.TestCase):

    def test_what_parting_tells_is_shown(self):
        for books in ROWS:
            self.assertIs(shows_parting(books, parting(books)), True)
            self.assertIs(shows_parting(books, ('one',)), parting(books)[0] == 'one')
            self.assertIs(shows_parting(value=parting(books), books=books), True)

    def test_all_houses(self):
        for books in ROWS:
            found = parting(books)
            for landings in all_landings(books[0], 2):
                groups = slow_groups(books, landings)
                right = found[0] == 'parts' and len(groups) > 1 and len(landings) == len(found[1])
                self.assertIs(shows_parting(books, ('parts', landings, groups)), right)

    def test_longer_houses_are_wrong(self):
        one = Book('wires 1\nkind a\n  lamp l b1 live\nhouse a*')
        books = (one, one.put(3, '  lamp l live back'))
        for many in range(4):
            landings = (('a', ()),) * many
            self.assertIs(shows_parting(books, ('parts', landings, ((0,), (1,)))), many == 1)

    def test_groups_that_are_wrong(self):
        books = (HALLS[0], HALLS[1], HALLS[0], HALLS[1], HALLS[2])
        word, landings, groups = parting(books)
        self.assertEqual(groups, slow_groups(books, landings))
        numbers = range(5)
        wrong = [((0, 1, 2, 3, 4),), tuple((number,) for number in numbers), (), ((),), (*groups, ()), (*groups, (5,)), groups[::-1],
                 groups[:-1], groups[1:], groups + groups, tuple(group[::-1] for group in groups), [*groups],
                 tuple(list(group) for group in groups), tuple(group + group[-1:] for group in groups),
                 tuple(group[1:] for group in groups), tuple((*group, 5) for group in groups), sum(groups, ())]
        for told in wrong:
            self.assertIs(shows_parting(books, (word, landings, told)), told == groups, told)
        for moved in [*moved_values(groups), *[(moved, *groups[1:]) for moved in moved_values(groups[0])]]:
            self.assertIs(shows_parting(books, (word, landings, moved)), False)
        self.assertIs(shows_parting(books, (word, landings, groups)), True)

    def test_numbers_as_bools(self):
        word, landings, groups = parting(HALLS[:2])
        self.assertEqual(groups, ((0,), (1,)))
        for told in (((False,), (1,)), ((0,), (True,)), ((False,), (True,))):
            self.assertIs(shows_parting(HALLS[:2], (word, landings, told)), False)

    def test_bent_values(self):
        for books in (HALLS, HALLS[:2], HALLS[:1], (Book(OLD),) * 2, *ROWS[8:20]):
            for bent in bent_values(parting(books)):
                self.assertIs(shows_parting(books, bent), False, bent)

    def test_other_forms_and_any_values(self):
        for books in (HALLS, HALLS[:1], (Book(MIXED),) * 3, (Book(SMALL),)):
            found = parting(books)
            for value in (found[:-1], found + ((),), list(found), found[1:], found[::-1], ('ones',), ['one'], 'one', ('one', ()),
                          ('parts',), ('parts', ()), ('parts', (), ()), ('parts', HOUSE.landings, ((0, 1, 2),))):
                self.assertIs(shows_parting(books, value), value == found)
            for value in any_values():
                for told in (value, (value,), ('parts', value, value), ('one', value), (value,) * 3, ('parts', (value,), ((0,), (1,)))):
                    self.assertIs(shows_parting(books, told), False, told)
                if found[0] == 'parts':
                    self.assertIs(shows_parting(books, (*found[:2], value)), False)
                    self.assertIs(shows_parting(books, (*found[:2], (value, *found[2][1:]))), False)
                    self.assertIs(shows_parting(books, (*found[:2], ((value,), *found[2][1:]))), False)


if __name__ == '__main__':
    unittest.main()
