"""Points 2, 3 and 11: whether two books light the same lamps, and which links are needless."""

import itertools
import random
import unittest

from landingwires.books import Book
from landingwires.comparing import alike, needless, shows_alike
from landingwires.errors import TooMany, Unlike
from landingwires.standings import Standing
from samples import (HALL, MIXED, OLD, SMALL, SlowHouse, all_landings, all_marks, all_positions, any_values,
                     bent_values, check_raises, lots_of_books, moved_values, redrawn, slow_lead, slow_meeting, slow_shut)

# One more wire, lines in another sequence, points exchanged, inner points called otherwise, a link more that is needless.
OTHER_HALL = Book('\n'.join([
    'wires 4', 'kind foot', '  lamp l back y', '  link a3 y', '  turn s live a1 a2', 'kind stair', '  link x b3', '  link a3 x',
    '  lamp l back x', '  cross s b2 a2 b1 a1', 'kind more', '  lamp l b1 b4', 'kind head', '  lamp l b3 back',
    '  turn s z b1 b2', '  link z b3', '  link live a4', 'house foot stair* head']))
# Two books by which just 1000 triples come from below; an item more, and one more comes.
MANY = ('wires 4\nkind k\n  cross s b1 a1 b3 a2\n  cross t b4 a3 b2 a4\n  turn u live b1 a2\n  lamp l b1 back\nkind m\n'
        '  cross s b1 a3 b2 a4\n  cross t b4 a1 b3 a2\n  turn u back a1 x\n  lamp l b3 back\nkind e\n  link live back\n'
        'house k m* e')
MANY_LINE = 9, '  cross t b3 a1 b4 a2'
# A book by which more than 1000 triples come if the link of the kind m is left out.
TWISTED = MANY.replace('  turn u back a1 x', '  link b3 a2\n  turn u back a1 x').replace('house k m* e', 'house k* m* k*')


def pairs_of_books():
    """Pairs of books of one form, many of them alike, drawn by lot."""
    lots = random.Random(5)
    for book in [Book(OLD), Book(SMALL), *lots_of_books(1, 14, 8), *lots_of_books(2, 7, 8)]:
        yield book, book
        for many in (1, 1, 3):
            yield book, redrawn(book, lots, many)
    yield Book(HALL), OTHER_HALL
    yield Book(HALL), redrawn(Book(HALL), lots)
    for book in lots_of_books(1, 6, 9):
        yield book, Book(book.text.replace('wires 1', 'wires 2'))
        yield Book(book.text.replace('wires 1', 'wires 3')), redrawn(book, lots)


PAIRS = list(pairs_of_books())


def slow_pairs(one, other):
    """The least triples from below and from above, each by going on until nothing comes."""
    bare = tuple(tuple(range(book.wires + 2)) for book in (one, other))

    def lead(up):
        return lambda kind, position, rest: tuple(slow_lead(book, kind, position, marks, up)
                                                  for book, marks in zip((one, other), rest))

    below = slow_shut(one, [(0, *bare)], True, lead(True))
    above = slow_shut(one, [(len(one.order), *bare)], False, lead(False))
    return tuple(sorted(below)), tuple(sorted(above))


def is_shut(one, other, below, above):
    """Whether two lists are shut, as the document tells it."""
    bare = tuple(tuple(range(book.wires + 2)) for book in (one, other))

    def lead(up):
        return lambda kind, position, rest: tuple(slow_lead(book, kind, position, marks, up)
                                                  for book, marks in zip((one, other), rest))

    if (0, *bare) not in below or (len(one.order), *bare) not in above:
        return False
    return slow_shut(one, below, True, lead(True)) == set(below) and slow_shut(one, above, False, lead(False)) == set(above)


def is_met_alike(one, other, below, above):
    """Whether no lamp has unlike words at a meeting of two lists."""
    words = {}

    def told(book, kind, position, low, high):
        key = book.text, kind, position, low, high
        if key not in words:
            slow = slow_meeting(book, kind, position, low, high)
            words[key] = [slow.word(0, lamp) for lamp in book.lamps(kind)]
        return words[key]

    for item, (kind, starred) in enumerate(one.order):
        gate = item if starred else item + 1
        for (at, low, lower), (to, high, higher) in itertools.product(below, above):
            if at == item and to == gate:
                for position in all_positions(one, kind):
                    if told(one, kind, position, low, high) != told(other, kind, position, lower, higher):
                        return False
    return True


def full_lists(one, other):
    """All triples that there are."""
    some = tuple(itertools.product(range(len(one.order) + 1), *[all_marks(book.wires + 2) for book in (one, other)]))
    return some, some


def unlike_lamps(one, other, landings):
    """The numbers and names of all lamps of a house that have unlike words."""
    slows = [SlowHouse(book, landings) for book in (one, other)]
    return [(number, lamp) for number, (kind, _) in enumerate(landings) for lamp in one.lamps(kind)
            if slows[0].word(number, lamp) != slows[1].word(number, lamp)]


class AlikeTest(unittest.TestCase):

    def test_against_all_houses_of_up_to_three_landings(self):
        firsts = {}
        for one, other in PAIRS:
            found = alike(one, other)
            firsts[found[0]] = firsts.get(found[0], 0) + 1
            fewest = next((len(landings) for landings in all_landings(one, 3) if unlike_lamps(one, other, landings)), None)
            if found[0] == 'alike':
                self.assertIsNone(fewest, (one.text, other.text))
                self.assertEqual(found, ('alike', *slow_pairs(one, other)))
            else:
                word, landings, number, lamp = found
                self.assertEqual(word, 'unlike')
                self.assertIn((number, lamp), unlike_lamps(one, other, landings))
                self.assertEqual(len(landings), fewest or max(len(landings), 4), (one.text, other.text))
        self.assertGreater(min(firsts.values()), 20)

    def test_alike_at_each_meeting(self):
        for one, other in PAIRS:
            right = is_met_alike(one, other, *slow_pairs(one, other))
            self.assertEqual(alike(one, other)[0], 'alike' if right else 'unlike', (one.text, other.text))

    def test_told_otherwise(self):
        hall = Book(HALL)
        self.assertEqual(alike(hall, OTHER_HALL)[0], 'alike')
        self.assertEqual(alike(OTHER_HALL, hall)[0], 'alike')
        self.assertEqual(alike(hall, OTHER_HALL)[1:], slow_pairs(hall, OTHER_HALL))
        for number, line in ((3, '  turn s live a1 a2'), (4, '  lamp l back a3'), (6, '  cross s a2 b2 a1 b1'),
                             (7, '  link a3 b3'), (7, '  link a3 b3\n  link b3 a3\n  link b3 x'), (1, 'wires 4'),
                             (7, '  link b3 q\n  link q a3'), (11, '  lamp l b3 back\n  link x y')):
            self.assertEqual(alike(hall, hall.put(number, line))[0], 'alike', line)
        for number, line in ((3, '  turn s back a1 a2'), (3, '  turn s live a2 a1'), (4, '  lamp l a2 back'), (6, '  cross s b1 a2 b2 a1'), (7, ''),
                             (7, '  link b3 a2'), (10, '  turn s b3 b2 b1')):
            self.assertEqual(alike(hall, hall.put(number, line))[0], 'unlike', line)

    def test_words_not_only_light(self):
        # By both books the lamp is never lit, but by one it is warm.
        one = Book('wires 1\nkind a\n  lamp l b1 live\nhouse a a')
        self.assertEqual(alike(one, one.put(3, '  lamp l b1 a1')), ('unlike', (('a', ()), ('a', ())), 0, 'l'))
        self.assertEqual(alike(one, one.put(3, '  lamp l b1 a1\n  link live back'))[0], 'unlike')

    def test_as_few_landings_as_can_be(self):
        text = ('wires 4\nkind foot\n  link live a1\nkind up\n  link b1 a2\n  link b2 a3\n  link b3 a4\nkind top\n'
                '  lamp l b{} back\nhouse foot up* top')
        for many in range(1, 5):
            one, other = Book(text.format(many)), Book(text.format(many).replace('live a1', 'a1 x'))
            found = alike(one, other)
            self.assertEqual([found[0], len(found[1]), found[2:]], ['unlike', many + 1, (many, 'l')])

    def test_a_lamp_of_the_landing_that_is_told(self):
        one = Book('wires 1\nkind a\n  lamp l b1 a1\n  lamp m live b1\n  lamp n live back\nkind b\nhouse b* a b')
        for line, lamp in ((4, 'm'), (5, 'n'), (3, 'l')):
            other = one.put(line, one[line].rsplit(' ', 2)[0] + (' back live' if lamp == 'l' else ' x y'))
            self.assertEqual(alike(one, other), ('unlike', (('a', ()), ('b', ())), 0, lamp))

    def test_a_book_and_itself(self):
        for book in (Book(OLD), Book(HALL), Book(MIXED), ~Book(HALL)):
            found = alike(book, book)
            self.assertEqual(found[0], 'alike')
            self.assertTrue(all(one == other for part in found[1:] for _, one, other in part))

    def test_kinds_that_are_no_items_may_differ(self):
        one = Book(SMALL.replace('house', 'kind out\n  switch s b1 a1\n  lamp l b1 live\nhouse'))
        for text in (SMALL, SMALL.replace('house', 'kind other\nhouse'), SMALL.replace('house', 'kind out\n  lamp m live back\nhouse')):
            self.assertEqual(alike(one, Book(text))[0], 'alike')
            self.assertEqual(alike(Book(text), one)[0], 'alike')

    def test_lamps_are_what_is_compared(self):
        one = Book('wires 1\nkind a\n  switch s b1 a1\nhouse a*')
        self.assertEqual(alike(one, one.put(3, '  turn s live back a1'))[0], 'alike')

    def test_upside_down_both(self):
        for one, other in PAIRS:
            self.assertEqual(alike(one, other)[0], alike(~one, ~other)[0], (one.text, other.text))

    def test_names_exchanged(self):
        def exchanged(text):
            return text.replace('foot', 'zz').replace('stair', 'foot').replace('head', 'a').replace('lamp l', 'lamp s')

        hall = Book(HALL)
        for other in (hall, hall.put(6, '  cross s b2 a2 b1 a1'), hall.put(6, '  cross s b1 a2 b2 a1'), OTHER_HALL):
            found, told = alike(hall, other), alike(Book(exchanged(HALL)), Book(exchanged(other.text)))
            self.assertEqual([found[0], len(found[1])], [told[0], len(told[1])])
            self.assertEqual(needless(other), needless(Book(exchanged(other.text))))

    def test_arguments_by_name_and_again(self):
        first = [alike(one, other) for one, other in PAIRS]
        again = [alike(other=Book(other.text), one=Book(one.text)) for one, other in reversed(PAIRS)]
        self.assertEqual(first, again[::-1])
        self.assertIs(shows_alike(value=first[0], other=PAIRS[0][1], one=PAIRS[0][0]), True)


class ErrorsTest(unittest.TestCase):

    def check_unlike(self, one, other):
        check_raises(self, Unlike, other, alike, one, other)
        check_raises(self, Unlike, other, shows_alike, one, other, None)
        check_raises(self, Unlike, other, shows_alike, value=('alike', (), ()), other=other, one=one)

    def test_no_book(self):
        for value in any_values():
            self.check_unlike(Book(OLD), value)
        for value in (OLD, Book, (Book(OLD),), [Book(OLD)]):
            self.check_unlike(Book(OLD), value)

    def test_other_items(self):
        book = Book('wires 1\nkind a\n  switch s b1 a1\nkind b\n  switch s b1 a1\nhouse a b')
        for line in ('house b a', 'house a', 'house a b*', 'house a* b', 'house a b b', 'house a a', 'house b', 'house a b a'):
            self.check_unlike(book, book.put(6, line))
            self.check_unlike(book.put(6, line), book)
        self.check_unlike(book, Book(book.text.replace('kind b', 'kind c').replace('a b', 'a c')))

    def test_other_names(self):
        book = Book('wires 2\nkind a\n  switch s b1 a1\n  turn t b1 a1 a2\n  lamp l b1 a1\n  lamp m b1 a1\nhouse a')
        for number, line in ((3, '  switch r b1 a1'), (3, '  switch u b1 a1'), (3, ''), (5, '  lamp n b1 a1'), (6, ''),
                             (3, '  switch s b1 a1\n  switch u b1 a1'), (6, '  lamp m b1 a1\n  lamp n b1 a1'), (5, '')):
            self.check_unlike(book, book.put(number, line))
            self.check_unlike(book.put(number, line), book)
        lines = book.text.split('\n')
        for one, other in ((2, 3), (4, 5)):
            moved = list(lines)
            moved[one], moved[other] = lines[other], lines[one]
            self.check_unlike(book, Book('\n'.join(moved)))
        moved = list(lines)
        moved[3], moved[4] = lines[4], lines[3]
        self.assertEqual(alike(book, Book('\n'.join(moved)))[0], 'alike')
        self.assertEqual(alike(book, book.put(3, '  cross s b1 a1 b2 a2').put(4, '  switch t a1 x'))[0], 'alike')

    def check_too_many(self, one, other):
        for call, more in ((alike, ()), (shows_alike, (None,)), (shows_alike, (('alike', (), ()),)),
                           (shows_alike, (('unlike', (('k', (0, 0, 0)),), 0, 'l'),))):
            with self.assertRaises(TooMany) as caught:
                call(one, other, *more)
            self.assertEqual(caught.exception.value, 1000)
            self.assertIs(caught.exception.value.__class__, int)

    def test_just_more_than_a_thousand_triples_from_below(self):
        for text, sizes in ((MANY, (1000, 1000)), (MANY + ' e', (1001, 1000))):
            one = Book(text)
            other = one.put(*MANY_LINE)
            below, above = slow_pairs(one, other)
            self.assertEqual([len(below), len(above) <= 1000], [sizes[0], True])
            if sizes[0] > 1000:
                self.check_too_many(one, other)
                self.check_unlike(one, one.put(len(one), 'house k'))
            else:
                self.assertIs(shows_alike(one, other, alike(one, other)), True)

    def test_just_more_than_a_thousand_triples_from_above(self):
        for line, size in (('house m m* k', 1001), ('house m* k', 502), ('house m k m*', 663)):
            one = (~Book(MANY)).put(len(Book(MANY)), line)
            other = (~Book(MANY).put(*MANY_LINE)).put(len(one), line)
            below, above = slow_pairs(one, other)
            self.assertEqual(len(above), size)
            if size > 1000:
                self.assertLess(len(below), 1000)
            if len(below) > 1000 or size > 1000:
                self.check_too_many(one, other)
            else:
                self.assertIs(shows_alike(one, other, alike(one, other)), True)

    def test_too_many_of_books_that_are_alike(self):
        one = Book(MANY.replace('house k m* e', 'house k* m* k*'))
        self.assertEqual(alike(one, one)[0], 'alike')
        for text in (MANY + ' e', TWISTED):
            dull = Book(text.replace('lamp l b1 back', 'lamp l p q').replace('lamp l b3 back', 'lamp l p q'))
            self.check_too_many(dull, dull.put(10, '') if text == TWISTED else dull.put(*MANY_LINE))


class NeedlessTest(unittest.TestCase):

    def test_against_alike(self):
        told = set()
        for book in [Book(OLD), Book(HALL), OTHER_HALL, Book(MIXED), *lots_of_books(1, 14, 10), *lots_of_books(2, 8, 10)]:
            links = [number for number, line in enumerate(book.text.split('\n'), 1) if line.startswith('  link')]
            right = tuple(number for number in links if is_met_alike(*[book, book.put(number, '')],
                                                                     *slow_pairs(book, book.put(number, ''))))
            self.assertEqual(needless(book), right, book.text)
            told.add(len(links) - len(right))
        self.assertGreater(len(told), 1)

    def test_links_told_twice(self):
        hall = Book(HALL)
        self.assertEqual(needless(hall.put(7, '  link b3 a3\n  link a3 b3')), (7, 8))
        self.assertEqual(needless(hall.put(7, '  link b3 a3\n  link b3 a3')), (7, 8))
        self.assertEqual(needless(hall.put(7, '  link b3 x\n  link x a3')), ())
        self.assertEqual(needless(hall.put(7, '  link b3 x\n  link x a3\n  link b3 a3')), (7, 8, 9))
        self.assertEqual(needless(hall.put(4, '  link a3 b2\n  lamp l a3 back')), (4,))
        self.assertEqual(needless(book=Book(OLD)), ())

    def test_links_of_kinds_that_are_no_items(self):
        book = Book(SMALL.replace('house', 'kind out\n  lamp l live b1\n  link live back\n  link b1 a1\nhouse'))
        self.assertEqual(needless(book), (6, 7))
        self.assertEqual(needless(Book(book.text + ' out')), (7,))
        self.assertEqual(needless(Book(book.text + ' out').put(7, '')), ())

    def test_kinds_called_link_and_no_links(self):
        self.assertEqual(needless(Book('wires 1\nkind link\n  switch link b1 a1\n  lamp lit live back\nhouse link*')), ())
        self.assertEqual(needless(Book('wires 1\nkind link\n  link link b1\nhouse link*')), (3,))

    def test_too_many(self):
        text = MANY.replace('lamp l b1 back\nkind m', 'lamp l b1 back\n  link x y\nkind m')
        self.assertEqual(len(slow_pairs(Book(text), Book(text).put(7, ''))[0]) <= 1000, True)
        self.assertEqual(needless(Book(text).put(len(Book(text)), 'house k')), (7, 14))
        with self.assertRaises(TooMany) as caught:
            needless(Book(TWISTED))
        self.assertEqual(caught.exception.value, 1000)


class ShownTest(unittest.TestCase):

    def test_what_alike_tells_is_shown(self):
        for one, other in PAIRS:
            self.assertIs(shows_alike(one, other, alike(one, other)), True)

    def test_all_houses(self):
        for one, other in PAIRS[:40:3]:
            fewest = alike(one, other)
            for landings in all_landings(one, 2):
                lamps = unlike_lamps(one, other, landings)
                for number, lamp in itertools.product(range(-1, len(landings) + 1), (*'lmnstuvw', 'none', '')):
                    right = fewest[0] == 'unlike' and len(landings) == len(fewest[1]) and (number, lamp) in lamps
                    self.assertIs(shows_alike(one, other, ('unlike', landings, number, lamp)), right)

    def test_longer_houses_are_wrong(self):
        one = Book('wires 1\nkind a\n  lamp l b1 live\nhouse a*')
        other = one.put(3, '  lamp l b1 back')
        for many in range(4):
            self.assertIs(shows_alike(one, other, ('unlike', (('a', ()),) * many, 0, 'l')), many == 1)

    def test_a_lamp_of_another_kind_or_with_the_same_words(self):
        hall = Book(HALL)
        other = hall.put(4, '  lamp l a3 live')
        _, landings, number, lamp = alike(hall, other)
        self.assertEqual([len(landings), number, lamp], [2, 0, 'l'])
        for told in range(2):
            self.assertIs(shows_alike(hall, other, ('unlike', landings, told, 'l')), told == 0)
        for told in ('m', 's', 'foot', '', None, 0, ['l'], ('l',), 'L'):
            self.assertIs(shows_alike(hall, other, ('unlike', landings, 0, told)), False)

    def test_larger_lists(self):
        seen = set()
        for one, other in PAIRS:
            found = alike(one, other)
            if one.wires > 1 or other.wires > 1 or found[0] != 'alike':
                continue
            full = full_lists(one, other)
            for below, above in ((full[0], found[2]), (found[1], full[1]), full, found[1:]):
                right = is_shut(one, other, below, above) and is_met_alike(one, other, below, above)
                seen.add((right, (below, above) == found[1:]))
                self.assertIs(shows_alike(one, other, ('alike', below, above)), right)
        self.assertEqual(seen, {(True, True), (False, False), (True, False)})

    def test_a_triple_more_or_less(self):
        seen = set()
        for one, other in [pair for pair in PAIRS if pair[0].wires + pair[1].wires < 4 and alike(*pair)[0] == 'alike'][::3]:
            least = alike(one, other)[1:]
            for at, full in enumerate(full_lists(one, other)):
                for told in full:
                    parts = list(least)
                    parts[at] = tuple(sorted(set(least[at]) ^ {told}))
                    right = is_shut(one, other, *parts) and is_met_alike(one, other, *parts)
                    seen.add((right, told in least[at]))
                    self.assertIs(shows_alike(one, other, ('alike', *parts)), right)
        self.assertEqual(seen, {(True, False), (False, False), (False, True)})

    def test_lists_where_the_books_are_unlike(self):
        for one, other in PAIRS:
            if alike(one, other)[0] == 'unlike':
                self.assertIs(shows_alike(one, other, ('alike', *slow_pairs(one, other))), False)

    def test_lists_that_are_not_ascending(self):
        for one, other in [PAIRS[0], (Book(HALL), OTHER_HALL)]:
            least = alike(one, other)
            for at in (1, 2):
                for moved in moved_values(least[at]):
                    self.assertIs(shows_alike(one, other, (*least[:at], moved, *least[at + 1:])), False)

    def test_marks_of_another_number_of_wires(self):
        one = Book(SMALL)
        other = Book(SMALL.replace('wires 1', 'wires 2'))
        word, below, above = alike(one, other)
        self.assertIs(shows_alike(one, other, (word, below, above)), True)
        for turned in ((tuple((gate, yours, mine) for gate, mine, yours in below), above),
                       (below, tuple((gate, yours, mine) for gate, mine, yours in above)), slow_pairs(one, one),
                       slow_pairs(other, other)):
            self.assertIs(shows_alike(one, other, (word, *turned)), False)

    def test_triples_that_are_none(self):
        one, other = Book(OLD), Book(OLD.replace('wires 1', 'wires 2'))
        word, *least = alike(one, other)
        good, more = (0, 1, 2), (0, 1, 2, 3)
        for told in ((0, good), (0, good, more, more), (0, good, good), (0, more, more), (0, more, good), (3, good, more),
                     (-1, good, more), (True, good, more), (False, good, more), (0, (0, 0, 1), more), (0, good, (0, 0, 1, 3)),
                     (0, (0, True, 2), more), (0, good, (0, 1, True, 3)), (0, list(good), more), (0, good, list(more)),
                     [0, good, more], None, 0, (0, Standing.bare(1), Standing.bare(2)), (0, (good, more))):
            for at in (0, 1):
                for place in range(len(least[at]) + 1):
                    parts = list(least)
                    parts[at] = (*least[at][:place], told, *least[at][place:])
                    self.assertIs(shows_alike(one, other, (word, *parts)), False, told)

    def test_bent_values(self):
        for one, other in [(Book(OLD), Book(OLD)), (Book(HALL), Book(HALL).put(7, '')), *PAIRS[4:12]]:
            for bent in bent_values(alike(one, other)):
                self.assertIs(shows_alike(one, other, bent), False, bent)

    def test_other_forms_and_any_values(self):
        for one, other in [(Book(OLD), Book(OLD)), (Book(HALL), Book(HALL).put(7, '')), (Book(MIXED), Book(MIXED))]:
            found = alike(one, other)
            for value in (found[:-1], found + ((),), list(found), found[::-1], found[1:], ('Alike', *found[1:]),
                          ({'alike': 'unlike', 'unlike': 'alike'}[found[0]], *found[1:])):
                self.assertIs(shows_alike(one, other, value), False)
            for value in any_values():
                for told in (value, (value,), ('alike', value, value), ('unlike', value, value, value), (value,) * 3, (value,) * 4,
                             ('unlike', (value,), 0, 'l'), ('alike', (value,), (value,)), ('alike', (), ()),
                             ('alike', ((0, value, value),), ((value, value, value),))):
                    self.assertIs(shows_alike(one, other, told), False, told)
                if found[0] == 'unlike':
                    self.assertIs(shows_alike(one, other, (*found[:3], value)), False)
                    self.assertIs(shows_alike(one, other, (*found[:2], [value], found[3])), False)


if __name__ == '__main__':
    unittest.main()
