"""Points 2, 3 and 14: the cheapest changes of a book by which wishes hold in all houses."""

import itertools
import random
import unittest

from landingwires.books import Book
from landingwires.choosing import cheapest
from landingwires.errors import BadBook, BadOffers, BadWishes, TooMany
from landingwires.keeping import keeps
from landingwires.reaching import can
from landingwires.rules import Rule, odd
from landingwires.switching import effect
from samples import (HALL, MIXED, OLD, SMALL, all_whats, any_values, check_raises, drawn_line, drawn_rules, lamp_pairs,
                     lots_of_books, moved_values, points_of, switch_pairs)
from test_keeping import ABOVE_BOOK, ABOVE_RULE
from test_switching import MANY

OFFERS = ((3, '  switch s live x', 2), (6, '  link b1 back', 1))
WISHES = (('never', ('lamp', 'foot', 'l', 'warm')), ('always', ('foot', 's'), ('foot', 'l')))
NEVER = ('never', ('short',))
ODD = odd(Book(HALL)).text


def slow_choices(offers):
    """All choices in sequence, each with its price."""
    some = [choice for count in range(len(offers) + 1) for choice in itertools.combinations(offers, count)
            if len({number for number, _, _ in choice}) == count]
    return [(sum(price for _, _, price in choice), choice)
            for choice in sorted(some, key=lambda choice: (sum(price for _, _, price in choice), len(choice), choice))]


def slow_book(book, choice):
    """The book that a choice makes, or None."""
    lines = book.text.split('\n')
    for number, text, _ in sorted(choice, reverse=True):
        lines[number - 1:number] = text.split('\n') if text else []
    try:
        return Book('\n'.join(lines))
    except BadBook:
        return None


def has_lamp(book, kind, lamp):
    """Whether the book has this lamp."""
    return kind in book and lamp in book.lamps(kind)


def slow_holds(book, wish):
    """Whether a wish holds by a book, case by case."""
    if wish[0] == 'keeps':
        return has_lamp(book, *wish[1:3]) and keeps(book, *wish[1:3], Rule(wish[3]))[0] == 'keeps'
    if wish[0] == 'always':
        kind, switch = wish[1]
        return (kind in book and switch in book.switches(kind) and has_lamp(book, *wish[2])
                and effect(book, wish[1], wish[2])[0] == 'always')
    what = wish[1]
    if what[0] == 'short':
        return can(book, what)[0] == 'never'
    if what[0] == 'lamp':
        return has_lamp(book, *what[1:3]) and can(book, what)[0] == 'never'
    if what[1] not in book or any(point[1:].isdigit() and int(point[1:]) > book.wires for point in what[2:]):
        return False
    return any(point not in points_of(book, what[1]) for point in what[2:]) or can(book, what)[0] == 'never'


def slow_cheapest(book, offers, wishes):
    """The first choice by which all wishes hold, told choice by choice."""
    reasons = []
    for price, choice in slow_choices(offers):
        changed = slow_book(book, choice)
        if changed is not None:
            broken = [number for number, wish in enumerate(wishes) if not slow_holds(changed, wish)]
            if not broken:
                return 'choice', price, choice, tuple(reasons)
            reasons.append((choice, broken[0]))
    return 'none', tuple(reasons)


def drawn_offers(book, lots):
    """Offers for lines of a book, some of which make no book, drawn by lot."""
    points = points_of(book, book.kinds[0]) + ['y']
    offers = set()
    while len(offers) < lots.randrange(1, 5):
        number = lots.randrange(1, len(book) + 1)
        line = book[number]
        text = lots.choice(['', line, 'wires 2', 'house k', 'kind m\n  link live a1', '  link live back', '  link b1 x\n  link x live'])
        if line.startswith('  ') and lots.random() < 0.8:
            text = drawn_line(line, points, lots)
        offers.add((number, text, lots.randrange(1, 10) if lots.random() < 0.5 else 2))
    return tuple(sorted(offers))


def drawn_wishes(book, lots):
    """Wishes of all kinds, some of them of what the book lacks, drawn by lot."""
    wishes = [('never', what) for what in lots.sample([what for what in all_whats(book)], 3)]
    wishes += [('always', lots.choice(switch_pairs(book) or [('k', 's')]), lots.choice(lamp_pairs(book)))]
    wishes += [('keeps', *lots.choice(lamp_pairs(book)), lots.choice(drawn_rules(book, 1)).text)]
    wishes += [('never', ('joined', 'k', 'y', 'b2')), ('never', ('lamp', 'other', 'l', 'lit')), ('never', ('joined', 'm', 'live', 'yy'))]
    return tuple(lots.sample(wishes, lots.randrange(1, 4)))


class CheapestTest(unittest.TestCase):

    def test_against_the_slow_reckoning(self):
        lots, firsts = random.Random(12), {}
        for book in [*lots_of_books(1, 14, 13), *lots_of_books(2, 6, 13)] * 25:
            offers, wishes = drawn_offers(book, lots), drawn_wishes(book, lots)
            found = cheapest(book, offers, wishes)
            self.assertEqual(found, slow_cheapest(book, offers, wishes), (book.text, offers, wishes))
            key = found[0] if found[0] == 'none' else len(found[2])
            firsts[key] = firsts.get(key, 0) + 1
        self.assertGreater(min(firsts.values()), 3)
        self.assertGreater(len(firsts), 2)

    def test_nothing_is_changed(self):
        self.assertEqual(cheapest(Book(HALL), ((7, '', 1),), (NEVER,)), ('choice', 0, (), ()))
        self.assertEqual(cheapest(Book(HALL), ((7, '', 1), (8, '', 2)), (NEVER, ('always', ('head', 's'), ('foot', 'l')))),
                         ('choice', 0, (), ()))

    def test_one_offer(self):
        book = Book('wires 1\nkind a\n  link live back\nhouse a')
        self.assertEqual(cheapest(book, ((3, '', 9),), (NEVER,)), ('choice', 9, ((3, '', 9),), (((), 0),)))
        self.assertEqual(cheapest(book, ((3, '  link live b1', 9),), (NEVER,))[:2], ('choice', 9))
        self.assertEqual(cheapest(book, ((4, 'house a a', 9),), (NEVER,)), ('none', (((), 0), (((4, 'house a a', 9),), 0))))

    def test_four_offers_in_sequence(self):
        book = Book('wires 1\nkind a\n  link live back\n  link live back\n  link live back\n  link live back\nhouse a')
        offers = ((3, '', 1), (4, '', 2), (5, '', 3), (6, '', 1))
        found = cheapest(book, offers, (NEVER,))
        self.assertEqual(found[:3], ('choice', 7, offers))
        told = [choice for choice, number in found[3]]
        self.assertEqual([tuple(number for number, _, _ in choice) for choice in told], [
            (), (3,), (6,), (4,), (3, 6), (5,), (3, 4), (4, 6), (3, 5), (5, 6), (3, 4, 6), (4, 5), (3, 5, 6), (3, 4, 5), (4, 5, 6)])
        self.assertEqual({number for choice, number in found[3]}, {0})

    def test_by_number_of_offers_and_as_tuples(self):
        book = Book('wires 1\nkind a\n  link live back\n  link live back\nhouse a')
        offers = ((3, '  link live x', 3), (3, '  lamp l live x', 3), (4, '', 3), (5, 'house a', 6))
        found = cheapest(book, tuple(sorted(offers)), (('never', ('lamp', 'a', 'm', 'lit')),))
        self.assertEqual(found[0], 'none')
        self.assertEqual([choice for choice, _ in found[1]], [choice for _, choice in slow_choices(tuple(sorted(offers)))])
        self.assertEqual([len(choice) for choice, _ in found[1]], [0, 1, 1, 1, 1, 2, 2, 2, 2, 2, 3, 3])

    def test_two_offers_of_one_line_never_together(self):
        book = Book('wires 1\nkind a\n  link live back\nhouse a')
        offers = ((3, '  link b1 live', 1), (3, '  link live back', 1), (3, '  link live x', 1), (3, '  link live x', 2))
        found = cheapest(book, offers, (('never', ('joined', 'b', 'x', 'y')),))
        self.assertEqual(found, ('none', (((), 0), *[((offer,), 0) for offer in offers])))

    def test_texts_of_several_lines_and_the_empty_one(self):
        offers = ((7, '', 1), (7, '  link b3 x\n  link x a3', 3), (10, '  turn s x b1 b2\n  link x b3', 1))
        wishes = (('always', ('stair', 's'), ('foot', 'l')), ('never', ('joined', 'head', 'b3', 'y')), ('never', ('joined', 'stair', 'y', 'a4')))
        self.assertEqual(cheapest(Book(HALL), offers, wishes[:2]), ('choice', 0, (), ()))
        found = cheapest(Book(HALL), offers, (*wishes[:2], ('never', ('joined', 'stair', 'b3', 'a3'))))
        self.assertEqual(found, ('none', (((), 2), ((offers[0],), 0), ((offers[2],), 2), ((offers[0], offers[2]), 0),
                                          ((offers[1],), 2), ((offers[1], offers[2]), 2))))
        self.assertEqual(cheapest(Book(HALL), offers[:1], wishes[2:]), ('none', (((), 0), (((7, '', 1),), 0))))

    def test_lines_are_numbered_as_they_were_handed_in(self):
        book = Book('wires 1\nkind a\n  link b1 x\n  link live back\n  link b1 y\nhouse a')
        offers = ((3, '', 1), (3, '  link b1 p\n  link b1 q\n  link b1 r', 1), (4, '  link live x', 1))
        self.assertEqual(cheapest(book, offers, (NEVER,))[:3], ('choice', 1, (offers[2],)))
        wishes = (NEVER, ('never', ('joined', 'a', 'b1', 'live')))
        found = cheapest(book, offers, wishes)
        self.assertEqual(found[:3], ('choice', 2, (offers[0], offers[2])))
        wishes = (*wishes, ('never', ('joined', 'a', 'b1', 'y')))
        self.assertEqual(cheapest(book, offers, wishes)[0], 'none')

    def test_texts_that_make_no_book_do_not_count(self):
        book = Book(SMALL)
        offers = ((1, 'wires 2', 1), (2, 'kind foot\n  link a2 live', 1), (3, 'nonsense', 1), (4, '', 1))
        found = cheapest(book, offers, (('never', ('joined', 'foot', 'b1', 'a1')),))
        self.assertEqual(found, ('none', (((), 0), (offers[:1], 0), (offers[:2], 0))))
        # A kind called otherwise makes no book by itself, but it does with the last line.
        offers = ((2, 'kind top', 2), (4, 'house top', 3))
        self.assertEqual(cheapest(book, offers, (('never', ('joined', 'top', 'a1', 'live')),)),
                         ('choice', 5, offers, (((), 0),)))

    def test_a_text_with_lines_missing(self):
        book = Book('wires 1\nkind a\nhouse a')
        offers = ((1, '', 1), (2, '', 1), (3, '', 1))
        self.assertEqual(cheapest(book, offers, (('never', ('lamp', 'a', 'l', 'lit')),)), ('none', (((), 0),)))
        offers = ((1, '', 1), (2, '', 1), (3, SMALL, 1))
        self.assertEqual(cheapest(book, offers, (('never', ('lamp', 'a', 'l', 'lit')),)), ('none', (((), 0), (offers, 0))))
        for text in ('\n', ' ', '\nhouse a', 'house a\n'):
            self.assertEqual(cheapest(book, ((3, text, 1),), (('never', ('lamp', 'a', 'l', 'lit')),)), ('none', (((), 0),)))

    def test_by_name_and_again(self):
        book, offers, wishes = Book(OLD), OFFERS, WISHES
        found = cheapest(wishes=wishes, offers=offers, book=book)
        self.assertEqual(found, ('choice', 1, ((6, '  link b1 back', 1),), (((), 0),)))
        self.assertEqual(cheapest(Book(OLD), tuple(list(OFFERS)), tuple(list(WISHES))), found)
        self.assertEqual([offers, wishes, book], [OFFERS, WISHES, Book(OLD)])

    def test_what_is_told_holds_in_the_book(self):
        number, text, _ = cheapest(Book(OLD), OFFERS, WISHES)[2][0]
        told = Book(OLD).put(number, text)
        self.assertEqual([can(told, WISHES[0][1])[0], effect(told, *WISHES[1][1:])[0]], ['never', 'always'])


class WishesTest(unittest.TestCase):

    def check(self, book, wish, right):
        """Check whether a wish holds by a book, beside wishes that do."""
        held = ('never', ('joined', book.kinds[0], 'none', 'nothing'))
        offers = ((1, 'nonsense', 1),)
        for at, wishes in enumerate(((wish,), (held, wish), (held, held, wish))):
            self.assertEqual(cheapest(book, offers, wishes), ('choice', 0, (), ()) if right else ('none', (((), at),)), wish)

    def test_what_the_book_lacks(self):
        hall = Book(HALL)
        for wish in (('never', ('lamp', 'cellar', 'l', 'lit')), ('never', ('lamp', 'foot', 'm', 'lit')), ('never', ('joined', 'cellar', 'x', 'y')),
                     ('never', ('joined', 'cellar', 'live', 'back')), ('never', ('joined', 'foot', 'a4', 'b1')), ('never', ('joined', 'foot', 'b1', 'b4')),
                     ('never', ('joined', 'foot', 'a4', 'x')), ('never', ('joined', 'foot', 'x', 'a4')), ('never', ('joined', 'foot', 'a4', 'b4')),
                     ('keeps', 'cellar', 'l', ODD), ('keeps', 'foot', 'm', ODD), ('always', ('cellar', 's'), ('foot', 'l')),
                     ('always', ('foot', 't'), ('foot', 'l')), ('always', ('foot', 's'), ('cellar', 'l')), ('always', ('foot', 's'), ('foot', 'm')),
                     ('always', ('foot', 'l'), ('foot', 's'))):
            self.check(hall, wish, False)

    def test_inner_points_that_a_kind_lacks(self):
        hall = Book(HALL)
        for one, other in (('x', 'y'), ('x', 'live'), ('back', 'x'), ('a3', 'x'), ('x', 'b1'), ('s', 'l')):
            self.check(hall, ('never', ('joined', 'foot', one, other)), True)
        told = hall.put(4, '  lamp l a3 back\n  link x live')
        for one, other in (('x', 'y'), ('x', 'a2'), ('x', 'live')):
            self.check(told, ('never', ('joined', 'foot', one, other)), one + other == 'xy')

    def test_each_form(self):
        hall, old = Book(HALL), Book(OLD)
        other = (~odd(hall)).text
        for book, wish, right in (
                (hall, NEVER, True), (hall.put(7, '  link b3 a3\n  link live back'), NEVER, False),
                (hall, ('never', ('lamp', 'foot', 'l', 'warm')), True), (hall, ('never', ('lamp', 'foot', 'l', 'lit')), False),
                (hall, ('never', ('joined', 'stair', 'a1', 'a2')), True), (hall, ('never', ('joined', 'stair', 'a1', 'live')), False),
                (hall, ('keeps', 'stair', 'l', other), True), (hall, ('keeps', 'stair', 'l', ODD), False),
                (hall, ('keeps', 'head', 'l', other), True),
                (old, ('keeps', 'foot', 'l', 'begin even\neven foot 1 odd\nodd foot 1 even\neven head 1 odd\nodd head 1 even\nlit odd'), True),
                (old, ('keeps', 'foot', 'l', 'begin even\neven cellar 1 odd\nlit'), False),
                (hall, ('always', ('foot', 's'), ('head', 'l')), True), (hall.put(6, '  switch s b1 a1\n  link b2 a2'), ('always', ('foot', 's'), ('head', 'l')), False)):
            self.check(book, wish, right)

    def test_kinds_that_are_no_items(self):
        book = Book(HALL.replace('house', 'kind cellar\n  switch s live back\n  lamp l live back\nhouse'))
        for wish, right in ((NEVER, True), (('never', ('lamp', 'cellar', 'l', 'lit')), True), (('never', ('joined', 'cellar', 'live', 'back')), True),
                            (('keeps', 'cellar', 'l', ODD), True), (('always', ('cellar', 's'), ('cellar', 'l')), False),
                            (('always', ('foot', 's'), ('cellar', 'l')), False), (('always', ('cellar', 's'), ('foot', 'l')), False)):
            self.check(book, wish, right)

    def test_the_first_wish_that_does_not_hold(self):
        hall = Book(HALL)
        bad = ('keeps', 'foot', 'l', ODD)
        for wishes, number in (((bad, NEVER, bad), 0), ((NEVER, bad, bad), 1), ((NEVER, NEVER, bad), 2), ((bad,), 0), ((NEVER, bad), 1)):
            self.assertEqual(cheapest(hall, ((7, '  link a3 b3', 1),), wishes),
                             ('none', (((), number), (((7, '  link a3 b3', 1),), number))))


class ErrorsTest(unittest.TestCase):

    def check_bad_offers(self, offers, book=Book(OLD)):
        check_raises(self, BadOffers, offers, cheapest, book, offers, WISHES)
        check_raises(self, BadOffers, offers, cheapest, wishes=None, offers=offers, book=book)

    def test_bad_offers(self):
        good = OFFERS[0]
        for value in any_values():
            self.check_bad_offers(value)
            self.check_bad_offers((value,))
            self.check_bad_offers((good, value))
            for at in range(3):
                offer = (*good[:at], value, *good[at + 1:])
                right = (at == 1 and isinstance(value, str)) or (at != 1 and value.__class__ is int and 1 <= value <= 7)
                if not right:
                    self.check_bad_offers((offer,))
        for offers in ((), [], list(OFFERS), (good[:2],), ((*good, 1),), (list(good),), good, OFFERS[::-1], (good, good),
                       {0: good}, ((3, '', 1), (3, '', 2), (4, '', 1), (5, '', 1), (6, '', 1))):
            self.check_bad_offers(offers)

    def test_numbers_and_prices(self):
        book = Book(OLD)
        for number in (0, -1, 8, 99, True, '3', None, 3.0):
            self.check_bad_offers(((number, '', 1),))
        for price in (0, 10, -1, True, '1', None):
            self.check_bad_offers(((3, '', price),))
        for number, price in ((1, 1), (7, 9), (1, 9)):
            self.assertIn(cheapest(book, ((number, '', price),), WISHES)[0], ('none', 'choice'))

    def test_offers_that_are_not_ascending(self):
        offers = ((3, '', 1), (3, '', 2), (3, '  link live x', 1), (4, '', 1))
        self.assertEqual(cheapest(Book(OLD), offers, (NEVER,))[1], 0)
        for moved in moved_values(offers):
            if list(moved) != sorted(set(moved)) or len(moved) > 4:
                self.check_bad_offers(moved)
            else:
                self.assertEqual(cheapest(Book(OLD), moved, (NEVER,))[1], 0)

    def check_bad_wishes(self, wishes):
        check_raises(self, BadWishes, wishes, cheapest, Book(OLD), OFFERS, wishes)
        check_raises(self, BadWishes, wishes, cheapest, wishes=wishes, offers=OFFERS, book=Book(OLD))

    def test_bad_wishes(self):
        good = [NEVER, WISHES[0], ('never', ('joined', 'foot', 'a4', 'x')), ('keeps', 'foot', 'l', ODD), WISHES[1]]
        for wish in good:
            self.assertIn(cheapest(Book(OLD), OFFERS, (wish,))[0], ('choice', 'none'))
        names = ('a', 'foot', 'nobody')
        for value in any_values():
            self.check_bad_wishes(value)
            self.check_bad_wishes((value,))
            self.check_bad_wishes((NEVER, value))
            for wish in good:
                for at in range(len(wish)):
                    told = (*wish[:at], value, *wish[at + 1:])
                    if not (wish[0] == 'keeps' and at in (1, 2) and value in names):
                        self.check_bad_wishes((told,))
                    for place in range(len(wish[at]) if isinstance(wish[at], tuple) else 0):
                        part = (*wish[at][:place], value, *wish[at][place + 1:])
                        if value not in names and value not in ('b1', 'live'):
                            self.check_bad_wishes(((*wish[:at], part, *wish[at + 1:]),))
        for wishes in ((), (NEVER,) * 4, [NEVER], NEVER, (list(NEVER),), {0: NEVER}, (('never',),), (('never', ('short',), 0),),
                       (('Never', ('short',)),), (('always', ('foot', 's')),), (('keeps', 'foot', 'l'),), (('keeps', 'foot', 'l', ODD, 0),),
                       (('always', ('foot', 's'), ('foot', 'l'), 0),), (('can', ('short',)),), (('never', ['short']),)):
            self.check_bad_wishes(wishes)

    def test_bad_whats(self):
        for what in (('lamp', 'foot', 'l'), ('lamp', 'foot', 'l', 'bright'), ('lamp', 'live', 'l', 'lit'), ('lamp', 'foot', 'back', 'lit'),
                     ('lamp', 'Foot', 'l', 'lit'), ('lamp', 'foot', 'l1', 'lit'), ('lamp', 'b1', 'l', 'lit'), ('lamp', 'foot', '', 'lit'),
                     ('lamp', 'footfootf', 'l', 'lit'), ('joined', 'foot', 'x', 'x'), ('joined', 'foot', 'live', 'live'), ('joined', 'foot', 'a5', 'x'),
                     ('joined', 'foot', 'a0', 'x'), ('joined', 'foot', 'x', 'b5'), ('joined', 'foot', 'a', 'b', 'c'), ('joined', 'live', 'x', 'y'),
                     ('joined', 'b1', 'x', 'y'), ('joined', 'foot', 'X', 'y'), ('joined', 'foot', 'footfootf', 'y'), ('short', 'foot'), 'short', (),
                     ('joined', 'foot', 'x'), ('join', 'foot', 'x', 'y')):
            self.check_bad_wishes((('never', what),))
        for what in (('lamp', 'zz', 'qq', 'short'), ('joined', 'zz', 'b4', 'a4'), ('joined', 'zz', 'b', 'a'), ('joined', 'lit', 'live', 'back')):
            self.assertIn(cheapest(Book(OLD), OFFERS, (('never', what),))[0], ('choice', 'none'))

    def test_bad_pairs_and_rules(self):
        for pair in (('foot',), ('foot', 's', 's'), ['foot', 's'], ('foot', 'S'), ('live', 's'), ('foot', 'back'), ('a1', 's'), 'fs', ('', 's'),
                     ('foot', 'switchess')):
            self.check_bad_wishes((('always', pair, ('foot', 'l')),))
            self.check_bad_wishes((('always', ('foot', 's'), pair),))
            self.check_bad_wishes((NEVER, ('always', pair, pair)))
        for text in ('', 'begin a', 'lit', ODD + '\n', ODD[1:], 'begin a\nlit b a', Rule(ODD), 0):
            self.check_bad_wishes((('keeps', 'foot', 'l', text),))
        for kind, lamp in (('live', 'l'), ('foot', 'l1'), ('', 'l'), ('foot', ''), (0, 'l'), ('foot', ('l',))):
            self.check_bad_wishes((('keeps', kind, lamp, ODD),))

    def test_offers_ahead_of_wishes(self):
        offers, wishes = [], []
        check_raises(self, BadOffers, offers, cheapest, Book(OLD), offers, wishes)
        check_raises(self, BadWishes, wishes, cheapest, Book(MANY + ' e'), ((1, '', 1),), wishes)

    def check_too_many(self, *case):
        with self.assertRaises(TooMany) as caught:
            cheapest(*case)
        self.assertEqual(caught.exception.value, 1000)

    def test_too_many_only_as_far_as_it_is_asked(self):
        great, always = Book(MANY + ' e'), ('always', ('k', 's'), ('k', 'l'))
        last = len(great)
        offers = ((last, 'house k', 2), (last, 'house m', 1))
        broken, held = ('never', ('lamp', 'k', 'n', 'lit')), ('never', ('joined', 'e', 'x', 'y'))
        self.check_too_many(great, offers, (always,))
        self.check_too_many(great, offers, (held, always))
        self.check_too_many(great, offers, (held, always, broken))
        self.assertEqual(cheapest(great, offers, (held, broken, always)),
                         ('none', (((), 1), (offers[1:], 1), (offers[:1], 1))))
        self.assertEqual(cheapest(great, offers, (held,)), ('choice', 0, (), ()))

    def test_too_many_by_choices_up_to_the_told_one(self):
        great, always = Book(MANY + ' e'), ('always', ('k', 's'), ('k', 'l'))
        last = len(great)
        book = great.put(last, 'house e')
        offers = tuple(sorted(((last, 'house k', 2), (last, great[last], 3))))
        # Asked by a choice behind the told one it is not raised, by one ahead of the end it is.
        wish = ('never', ('lamp', 'e', 'l', 'short'))
        self.assertEqual(cheapest(book, offers, (wish,))[:2], ('choice', 2))
        self.assertEqual(cheapest(book, offers, (wish, ('never', ('lamp', 'k', 'l', 'warm'))))[0], 'choice')
        self.check_too_many(book, offers, (always,))
        self.check_too_many(book, tuple(sorted(((last, great[last], 1), (last, 'house k', 2)))), (always,))

    def test_too_many_by_keeps(self):
        great = Book(ABOVE_BOOK + ' e')
        last = len(great)
        wish = ('keeps', 'e', 'l', ABOVE_RULE.text)
        self.assertEqual(cheapest(great, ((last, 'house k', 1),), (wish,))[0], 'none')
        wish = ('keeps', 'k', 'l', ABOVE_RULE.text)
        self.check_too_many(great, ((last, 'house k', 1),), (wish,))
        self.assertEqual(cheapest(Book(ABOVE_BOOK), ((last, 'house k', 1),), (wish,))[0], 'choice')


if __name__ == '__main__':
    unittest.main()
