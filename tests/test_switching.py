"""Points 2, 3 and 9: what a switch does to a lamp in all houses."""

import itertools
import unittest

from landingwires.books import Book
from landingwires.errors import BadLamp, BadSwitch, TooMany
from landingwires.houses import House
from landingwires.reaching import standings
from landingwires.standings import Standing
from landingwires.switching import effect, shows_effect
from samples import (HALL, MIXED, OLD, SMALL, SlowHouse, all_landings, all_marks, all_positions, any_values,
                     bent_values, check_raises, flipped, is_item, lamp_pairs, lots_of_books, moved_values, slow_lead,
                     slow_meeting, slow_shut, slow_turned, switch_pairs)

BENT = Book(HALL).put(6, '  switch s b1 a1\n  link b2 a2')
# A switch of each landing that is turned, or not, by where the others stand; one lamp that no switch reaches.
ROWS = Book('wires 2\nkind p\n  switch s b1 a1\n  lamp l a1 back\n  lamp m b2 a2\nkind q\n  link a1 live\n  turn t back b2 x\n'
            '  lamp n x live\nkind out\n  switch s live back\n  lamp l live back\nhouse p* q p*')
LAST = Book('wires 1\nkind a\n  turn s a1 back live\n  lamp l b1 back\n  lamp m live back\n  lamp n a1 live\nhouse a a*')
# What is seen from below by both positions is 1000 triples; an item more, and it is one more.
MANY = ('wires 4\nkind k\n  cross s b1 a4 b4 a2\n  cross t b2 a1 b3 a3\n  turn u back a4 x\n  lamp l b1 back\nkind m\n'
        '  cross s b2 a1 b1 a4\n  cross t b4 a3 b3 a2\n  turn u live b1 a2\n  lamp l b1 back\nkind e\n  link live back\n  lamp l b1 a1\n'
        'kind out\n  switch s b1 a1\n  lamp l b1 back\nhouse k* m k e')
BOOKS = [Book(OLD), Book(HALL), BENT, ROWS, LAST, *lots_of_books(1, 10, 7), *lots_of_books(2, 5, 7)]


def asked(books=None):
    """All that can be asked of the books."""
    for book in BOOKS if books is None else books:
        for mine, theirs in itertools.product(switch_pairs(book), lamp_pairs(book)):
            yield book, mine, theirs


def slow_lists(book, mine):
    """below, above, under and over, each by going on until nothing comes."""
    last, bare = len(book.order), tuple(range(book.wires + 2))

    def lead(up):
        return lambda kind, position, rest: tuple(slow_lead(book, kind, position, marks, up) for marks in rest)

    below = slow_shut(book, [(0, bare)], True, lead(True))
    above = slow_shut(book, [(last, bare)], False, lead(False))
    under = slow_shut(book, slow_starts(book, mine, below, True), True, lead(True))
    over = slow_shut(book, slow_starts(book, mine, above, False), False, lead(False))
    return tuple(tuple(sorted(some)) for some in (below, above, under, over))


def slow_starts(book, mine, seen, up):
    """What must be seen by both positions of a switch right behind its landings."""
    found, at = set(), book.switches(mine[0]).index(mine[1])
    for item, (kind, starred) in enumerate(book.order):
        gate = item if starred else item + 1
        here, there = (item, gate) if up else (gate, item)
        if kind == mine[0]:
            found |= {(there, slow_lead(book, kind, position, marks, up),
                       slow_lead(book, kind, flipped(position, at), marks, up))
                      for number, marks in seen if number == here for position in all_positions(book, kind)}
    return found


def is_shut(book, mine, shown):
    """Whether four lists are shut, as the document tells it."""
    below, above, under, over = shown
    last, bare = len(book.order), tuple(range(book.wires + 2))

    def lead(up):
        return lambda kind, position, rest: tuple(slow_lead(book, kind, position, marks, up) for marks in rest)

    for some, starts, up in (
            (below, {(0, bare)}, True), (above, {(last, bare)}, False),
            (under, slow_starts(book, mine, below, True), True), (over, slow_starts(book, mine, above, False), False)):
        if not starts <= set(some) or slow_shut(book, some, up, lead(up)) != set(some):
            return False
    return True


def looked(book, mine, theirs, shown):
    """Whether the lamp is turned, at all the meetings at which it is looked at."""
    below, above, under, over = shown
    kind, lamp = theirs
    found, lit = set(), {}

    def is_lit(position, one, other):
        key = position, one, other
        if key not in lit:
            lit[key] = slow_meeting(book, kind, position, one, other).word(0, lamp) == 'lit'
        return lit[key]

    for item, (name, starred) in enumerate(book.order):
        gate = item if starred else item + 1
        if name != kind:
            continue
        for position in all_positions(book, kind):
            lows = [(position, one, other) for at, one, other in under if at == item]
            for (place, one, other), (at, marks) in itertools.product(lows, above):
                if at == gate:
                    found.add(is_lit(place, one, marks) != is_lit(place, other, marks))
            for (at, marks), (upper, one, other) in itertools.product(below, over):
                if at == item and upper == gate:
                    found.add(is_lit(position, marks, one) != is_lit(position, marks, other))
            if mine[0] == kind:
                other = flipped(position, book.switches(kind).index(mine[1]))
                for (at, low), (upper, high) in itertools.product(below, above):
                    if at == item and upper == gate:
                        found.add(is_lit(position, low, high) != is_lit(other, low, high))
    return found


def is_turned(book, mine, theirs, triple):
    """Whether a lamp is lit just once ahead of a switch being turned and behind it."""
    landings, first, second = triple
    turned = slow_turned(book, landings, first, mine[1])
    return len({SlowHouse(book, some).word(second, theirs[1]) == 'lit' for some in (landings, turned)}) == 2


def all_triples(book, mine, theirs, most):
    """All triples of houses with at most so many landings."""
    for landings in all_landings(book, most):
        kinds = [kind for kind, _ in landings]
        for first, second in itertools.product(range(len(kinds)), repeat=2):
            if kinds[first] == mine[0] and kinds[second] == theirs[0]:
                yield landings, first, second


def full_lists(book):
    """All pairs and all triples that there are."""
    marks = all_marks(book.wires + 2)
    gates = range(len(book.order) + 1)
    pairs, triples = tuple(itertools.product(gates, marks)), tuple(itertools.product(gates, marks, marks))
    return pairs, pairs, triples, triples


class EffectTest(unittest.TestCase):

    def test_against_all_houses_of_up_to_three_landings(self):
        firsts = {}
        for book, mine, theirs in asked():
            found = effect(book, mine, theirs)
            firsts[found[0]] = firsts.get(found[0], 0) + 1
            if found[0] == 'none':
                self.assertEqual(found, ('none',))
                self.assertFalse(is_item(book, mine[0]) and is_item(book, theirs[0]))
                continue
            triples = list(all_triples(book, mine, theirs, 3 if len(book.order) > 1 or book.wires < 3 else 2))
            turned = {is_turned(book, mine, theirs, triple) for triple in triples[::1 + len(triples) // 60]}
            if found[0] == 'both':
                self.check_both(book, mine, theirs, found)
            else:
                self.assertLessEqual(turned, {found[0] == 'always'}, (book.text, mine, theirs))
        self.assertGreater(min(firsts.values()), 10)
        self.assertEqual(sorted(firsts), ['always', 'both', 'never', 'none'])

    def check_both(self, book, mine, theirs, found):
        """Check both triples by going from neighbour to neighbour, the switch standing either way."""
        self.assertEqual([len(found), len(found[1]), len(found[2])], [3, 3, 3])
        for triple, right in zip(found[1:], (True, False)):
            landings, first, second = triple
            self.assertEqual([landings[first][0], landings[second][0]], [mine[0], theirs[0]])
            self.assertEqual(House(book, landings).landings, landings)
            self.assertIs(is_turned(book, mine, theirs, triple), right, (book.text, mine, theirs, triple))

    def test_what_is_shown_are_the_least_lists(self):
        seen = set()
        for book, mine, theirs in asked():
            found = effect(book, mine, theirs)
            if found[0] in ('always', 'never'):
                self.assertEqual(found, (found[0], slow_lists(book, mine)), (book.text, mine, theirs))
                self.assertEqual(found[1][:2], standings(book))
                self.assertTrue(is_shut(book, mine, found[1]))
                seen.add(found[0])
        self.assertEqual(seen, {'always', 'never'})

    def test_what_is_found_at_the_meetings(self):
        words = {(True,): 'always', (False,): 'never', (False, True): 'both'}
        for book, mine, theirs in [case for case in asked() if is_item(case[0], case[1][0]) and is_item(case[0], case[2][0])]:
            found = looked(book, mine, theirs, slow_lists(book, mine))
            self.assertEqual(effect(book, mine, theirs)[0], words[tuple(sorted(found))], (book.text, mine, theirs))

    def test_each_switch_turns_each_lamp(self):
        for book in (Book(HALL), ~Book(HALL)):
            for mine, theirs in itertools.product(book.kinds, book.kinds):
                found = effect(book, (mine, 's'), (theirs, 'l'))
                self.assertEqual(found[0], 'always', (mine, theirs))
                self.assertIs(shows_effect(book, (mine, 's'), (theirs, 'l'), found), True)

    def test_of_one_kind_and_of_two(self):
        for mine, theirs, word in (
                ('p s', 'p l', 'both'), ('p s', 'p m', 'never'), ('p s', 'q n', 'never'), ('q t', 'q n', 'always'),
                ('q t', 'p l', 'never'), ('q t', 'p m', 'never'), ('out s', 'p l', 'none'), ('p s', 'out l', 'none'),
                ('out s', 'out l', 'none')):
            self.assertEqual(effect(ROWS, tuple(mine.split()), tuple(theirs.split()))[0], word, (mine, theirs))
        self.assertEqual([effect(LAST, ('a', 's'), ('a', lamp))[0] for lamp in 'lmn'], ['both', 'never', 'both'])

    def test_the_switch_above_the_lamp_and_below_it_and_at_its_landing(self):
        text = 'wires 1\nkind low\n  {}\nkind high\n  {}\nhouse low {}high'
        turn, lamp = 'turn s live {0} x', 'lamp l {0} back'
        for items in ('', 'low* ', 'high* '):
            below = Book(text.format(turn.format('a1'), lamp.format('b1') + '\n  link b1 a1', items))
            above = Book(text.format(lamp.format('a1') + '\n  link b1 a1', turn.format('b1'), items))
            one = effect(below, ('low', 's'), ('high', 'l'))[0]
            other = effect(above, ('high', 's'), ('low', 'l'))[0]
            self.assertEqual([one, other], {'': ['always'] * 2, 'low* ': ['both', 'always'], 'high* ': ['always', 'both']}[items])
        book = Book('wires 1\nkind a\n  switch s live x\n  lamp l x back\nhouse a')
        self.assertEqual(effect(book, ('a', 's'), ('a', 'l'))[0], 'always')
        self.assertEqual(effect(book.put(5, 'house a a*'), ('a', 's'), ('a', 'l'))[0], 'both')
        self.assertEqual(effect(book.put(5, 'house a* a'), ('a', 's'), ('a', 'l'))[0], 'both')

    def test_far_from_each_other(self):
        book = Book('wires 4\nkind foot\n  switch s live a1\nkind up\n  link b1 a2\n  link b2 a3\n  link b3 a4\n  lamp l b4 a4\n'
                    'kind top\n  lamp l b4 back\nhouse foot up* top')
        found = effect(book, ('foot', 's'), ('top', 'l'))
        self.assertEqual([found[0], [kind for kind, _ in found[1][0]]], ['both', ['foot', 'up', 'up', 'up', 'top']])
        self.assertEqual(effect(book.put(11, 'house foot up up up top'), ('foot', 's'), ('top', 'l'))[0], 'always')
        self.assertEqual(effect(book.put(11, 'house foot up up top'), ('foot', 's'), ('top', 'l'))[0], 'never')

    def test_several_items_of_one_kind(self):
        book = Book('wires 1\nkind a\n  switch s live a1\n  lamp l b1 back\nkind b\n  link b1 a1\nhouse a b* a b')
        found = effect(book, ('a', 's'), ('a', 'l'))
        self.assertEqual([found[0], found[1][1] < found[1][2]], ['both', True])
        self.check_both(book, ('a', 's'), ('a', 'l'), found)

    def test_a_switch_with_two_more_beside_it(self):
        book = Book(MIXED)
        for mine, theirs in itertools.product(switch_pairs(book), lamp_pairs(book)):
            found = effect(book, mine, theirs)
            self.assertIs(shows_effect(book, mine, theirs, found), True)
            if found[0] == 'both':
                self.check_both(book, mine, theirs, found)

    def test_short_is_not_lit(self):
        book = Book('wires 1\nkind a\n  switch s live back\n  lamp l live back\n  lamp m b1 a1\nhouse a')
        self.assertEqual([effect(book, ('a', 's'), ('a', lamp))[0] for lamp in 'lm'], ['always', 'never'])
        self.assertEqual(effect(book.put(6, 'house a a*'), ('a', 's'), ('a', 'l'))[0], 'both')

    def test_upside_down(self):
        for book, mine, theirs in asked():
            self.assertEqual(effect(book, mine, theirs)[0], effect(~book, mine, theirs)[0], (book.text, mine, theirs))

    def test_names_exchanged(self):
        text = HALL.replace('foot', 'zz').replace('stair', 'foot').replace('head', 'a').replace('lamp l', 'lamp s')
        for one, other in ((Book(HALL), Book(text)), (BENT, Book(text).put(6, '  switch s b1 a1\n  link b2 a2'))):
            kinds = dict(zip(one.kinds, other.kinds))
            for mine, theirs in itertools.product(one.kinds, one.kinds):
                found = [effect(one, (mine, 's'), (theirs, 'l')), effect(other, (kinds[mine], 's'), (kinds[theirs], 's'))]
                self.assertEqual(found[0][0], found[1][0])
                if found[0][0] == 'always':
                    self.assertEqual(found[0], found[1])

    def test_arguments_by_name_and_again(self):
        cases = list(asked())[::5]
        first = [effect(*case) for case in cases]
        mine, theirs = ('foot', 's'), ('foot', 'l')
        self.assertEqual(effect(theirs=theirs, mine=mine, book=Book(OLD)), effect(Book(OLD), mine, theirs))
        self.assertIs(shows_effect(value=effect(Book(OLD), mine, theirs), theirs=theirs, mine=mine, book=Book(OLD)), True)
        again = [effect(Book(book.text), *case) for book, *case in reversed(cases)]
        self.assertEqual(first, again[::-1])
        self.assertEqual([mine, theirs], [('foot', 's'), ('foot', 'l')])


class ErrorsTest(unittest.TestCase):

    def check_bad(self, error, value, *case):
        check_raises(self, error, value, effect, *case)
        check_raises(self, error, value, shows_effect, *case, ('none',))
        check_raises(self, error, value, shows_effect, value=None, theirs=case[2], mine=case[1], book=case[0])

    def test_bad_switch(self):
        book = ROWS
        for value in any_values():
            for mine in (value, (value,), (value, 's'), ('p', value), (value, value)):
                self.check_bad(BadSwitch, mine, book, mine, ('p', 'l'))
                self.check_bad(BadSwitch, mine, book, mine, value)
        for mine in (['p', 's'], ('s', 'p'), ('p', 't'), ('q', 's'), ('p', 'l'), ('p', 's', 's'), ('p',), 'p s', 'ps',
                     ('c', 's'), {'p': 's'}, (('p', 's'),), ('p', ('s',)), ('out', 't')):
            self.check_bad(BadSwitch, mine, book, mine, ('p', 'l'))

    def test_bad_lamp(self):
        book = ROWS
        for value in any_values():
            for theirs in (value, (value,), (value, 'l'), ('p', value), (value, value)):
                self.check_bad(BadLamp, theirs, book, ('p', 's'), theirs)
        for theirs in (['p', 'l'], ('l', 'p'), ('p', 'n'), ('q', 'l'), ('p', 's'), ('p', 'l', 'l'), ('p',), 'p l', 'pl',
                       ('c', 'l'), {'p': 'l'}, (('p', 'l'),), ('p', ('l',)), ('out', 'm')):
            self.check_bad(BadLamp, theirs, book, ('p', 's'), theirs)
            self.check_bad(BadLamp, theirs, book, ('out', 's'), theirs)

    def test_both_wrong(self):
        wrong = ['p', 's']
        self.check_bad(BadSwitch, wrong, ROWS, wrong, wrong)
        self.check_bad(BadSwitch, ('p', 'l'), ROWS, ('p', 'l'), ('p', 's'))

    def check_too_many(self, *case):
        for call, more in ((effect, ()), (shows_effect, (None,)), (shows_effect, (('none',),)), (shows_effect, (('both', (), ()),))):
            with self.assertRaises(TooMany) as caught:
                call(*case, *more)
            self.assertEqual(caught.exception.value, 1000)
            self.assertIs(caught.exception.value.__class__, int)

    def test_just_more_than_a_thousand_triples(self):
        book, more = Book(MANY), Book(MANY + ' e')
        self.assertEqual([len(slow_lists(some, ('k', 's'))[2]) for some in (book, more)], [1000, 1001])
        self.assertLess(len(slow_lists(more, ('k', 's'))[3]), 1000)
        for theirs in (('k', 'l'), ('m', 'l'), ('e', 'l')):
            self.assertIs(shows_effect(book, ('k', 's'), theirs, effect(book, ('k', 's'), theirs)), True)
            self.check_too_many(more, ('k', 's'), theirs)

    def test_just_more_than_a_thousand_triples_from_above(self):
        down = ~Book(MANY)
        line = down.text.split('\n').index('  link live back') + 1
        for text, size in (('  link live back', 1000), ('  link live back\n  turn s live b1 b2', 1001)):
            book = down.put(len(down), 'house e k m k k*').put(line, text)
            self.assertEqual(len(slow_lists(book, ('k', 's'))[3]), size)
            self.assertLess(len(slow_lists(book, ('k', 's'))[2]), 1000)
            if size > 1000:
                self.check_too_many(book, ('k', 's'), ('m', 'l'))
            else:
                self.assertIs(shows_effect(book, ('k', 's'), ('m', 'l'), effect(book, ('k', 's'), ('m', 'l'))), True)

    def test_what_comes_ahead_of_too_many(self):
        for more in (Book(MANY + ' e'), ~Book(MANY + ' e')):
            for mine, theirs in ((('k', 's'), ('out', 'l')), (('out', 's'), ('k', 'l')), (('out', 's'), ('out', 'l'))):
                self.assertEqual(effect(more, mine, theirs), ('none',))
                self.assertIs(shows_effect(more, mine, theirs, ('none',)), True)
                self.assertIs(shows_effect(more, mine, theirs, ('never',)), False)
            self.check_bad(BadSwitch, ('e', 's'), more, ('e', 's'), ('k', 'l'))
            self.check_bad(BadLamp, ('k', 'm'), more, ('k', 's'), ('k', 'm'))


def shown_cases():
    """Some of what can be asked for which always or never is told."""
    hall = Book(HALL)
    yield from [(Book(OLD), ('head', 's'), ('foot', 'l')), (Book(OLD), ('foot', 's'), ('foot', 'l')),
                (ROWS, ('p', 's'), ('p', 'm')), (LAST, ('a', 's'), ('a', 'm')), (hall, ('stair', 's'), ('head', 'l'))]


class ShownTest(unittest.TestCase):

    def test_what_effect_tells_is_shown(self):
        for case in asked():
            found = effect(*case)
            self.assertIs(shows_effect(*case, found), True, (case[0].text, case[1:], found))
            if found[0] in ('always', 'never'):
                other = {'always': 'never', 'never': 'always'}[found[0]]
                self.assertIs(shows_effect(*case, (other, *found[1:])), False)

    def test_none_just_where_it_is_so(self):
        for book, mine, theirs in asked():
            right = not is_item(book, mine[0]) or not is_item(book, theirs[0])
            self.assertIs(shows_effect(book, mine, theirs, ('none',)), right)
            for value in (['none'], 'none', ('none', ()), ('None',), (), None):
                self.assertIs(shows_effect(book, mine, theirs, value), False)
        case = ROWS, ('out', 's'), ('p', 'l')
        for word in ('always', 'never'):
            self.assertIs(shows_effect(*case, (word, full_lists(ROWS))), False)
            self.assertIs(shows_effect(*case, (word, slow_lists(*case[:2]))), False)
        landings = (('q', (0,)),)
        self.assertIs(shows_effect(*case, ('both', (landings, 0, 0), (landings, 0, 0))), False)

    def test_larger_lists(self):
        seen = set()
        for book, mine, theirs in [*shown_cases(), *list(asked(BOOKS[5:]))[::4]]:
            found = effect(book, mine, theirs)
            if book.wires > 1 or found[0] not in ('always', 'never'):
                continue
            full = full_lists(book)
            for some in itertools.product((True, False), repeat=4):
                shown = tuple(many if large else least for large, many, least in zip(some, full, found[1]))
                right = is_shut(book, mine, shown) and looked(book, mine, theirs, shown) <= {found[0] == 'always'}
                seen.add((right, any(some)))
                self.assertIs(shows_effect(book, mine, theirs, (found[0], shown)), right, (book.text, mine, theirs, some))
        self.assertEqual(seen, {(True, False), (True, True), (False, True)})

    def test_a_pair_or_triple_more_or_less(self):
        seen = set()
        cases = [*list(shown_cases())[:2], *[case for case in asked(BOOKS[5:15]) if effect(*case)[0] in ('always', 'never')][::9]]
        for book, mine, theirs in cases:
            word, least = effect(book, mine, theirs)
            for at, full in enumerate(full_lists(book)):
                for told in full[::3]:
                    shown = list(least)
                    shown[at] = tuple(sorted(set(least[at]) ^ {told}))
                    right = is_shut(book, mine, shown) and looked(book, mine, theirs, shown) <= {word == 'always'}
                    seen.add((right, told in least[at]))
                    self.assertIs(shows_effect(book, mine, theirs, (word, tuple(shown))), right, (book.text, shown))
        self.assertLessEqual({(True, False), (False, False), (False, True)}, seen)

    def test_starts_go_by_the_lists_handed_in(self):
        # A pair more in below leads to no other pair, but to a triple more in under.
        book = Book('wires 1\nkind a\n  switch s live x\n  link b1 a1\n  lamp l live back\nhouse a')
        word, least = effect(book, ('a', 's'), ('a', 'l'))
        below = tuple(sorted((*least[0], (0, (0, 0, 2)), (1, (0, 0, 2)))))
        under = tuple(sorted((*least[2], (1, (0, 0, 2), (0, 0, 2)))))
        self.assertEqual(word, 'never')
        self.assertIs(shows_effect(book, ('a', 's'), ('a', 'l'), (word, (below, least[1], under, least[3]))), True)
        self.assertIs(shows_effect(book, ('a', 's'), ('a', 'l'), (word, (below, *least[1:]))), False)
        self.assertIs(shows_effect(book, ('a', 's'), ('a', 'l'), (word, (*least[:2], under, least[3]))), True)

    def test_lists_that_are_not_ascending(self):
        for case in shown_cases():
            word, least = effect(*case)
            for at in range(4):
                for moved in moved_values(least[at]):
                    self.assertIs(shows_effect(*case, (word, (*least[:at], moved, *least[at + 1:]))), False)

    def test_pairs_and_triples_that_are_none(self):
        case = Book(OLD), ('head', 's'), ('foot', 'l')
        word, least = effect(*case)
        good = (0, 1, 2)
        pairs = [(0,), (0, good, good), (0, (0, 1, 2, 3)), (0, (0, 0, 1)), (3, good), (-1, good), (True, good),
                 (0, (0, True, 2)), (0, [0, 1, 2]), [0, good], ('0', good), None, 0, (0, Standing.bare(1))]
        triples = [(0, good), (0, good, good, good), (0, good, (0, 1, 2, 3)), (0, (0, 1, 2, 3), good), (0, (0, 0, 1), good),
                   (0, good, (0, 0, 1)), (3, good, good), (-1, good, good), (True, good, good), (0, good, (0, True, 2)),
                   (0, (False, 1, 2), good), (0, good, [0, 1, 2]), (0, [0, 1, 2], good), [0, good, good], None, 0,
                   (0, good, Standing.bare(1)), (0, (good, good))]
        for at in range(4):
            for told in pairs if at < 2 else triples:
                for place in range(len(least[at]) + 1):
                    some = (*least[at][:place], told, *least[at][place:])
                    self.assertIs(shows_effect(*case, (word, (*least[:at], some, *least[at + 1:]))), False, (at, told))

    def test_other_numbers_of_lists_and_other_forms(self):
        for case in shown_cases():
            word, least = effect(*case)
            for value in ((word, least[:3]), (word, (*least, ())), (word, ()), (word, list(least)), [word, least], (word,),
                          (word, *least), (word, least, ()), (least, word), least, (word.upper(), least), ('both', least),
                          (word, (least[1], least[0], *least[2:])), (word, (*least[:2], least[3], least[2])),
                          (word, (*least[:2], (), least[3])), (word, (*least[:3], ())), (word, ((), *least[1:])),
                          (word, least[2:] + least[:2]), ('none',), ('both', least, least)):
                self.assertIs(shows_effect(*case, value), value == ((word, least)), value[0])

    def test_bent_lists(self):
        for case in list(shown_cases())[:4]:
            for bent in bent_values(effect(*case)):
                self.assertIs(shows_effect(*case, bent), False, bent)

    def test_all_triples(self):
        for case in [(BENT, ('stair', 's'), ('foot', 'l')), (ROWS, ('p', 's'), ('p', 'l')), (LAST, ('a', 's'), ('a', 'n'))]:
            word, one, other = effect(*case)
            self.assertEqual(word, 'both')
            triples = list(all_triples(*case, 3))
            self.assertGreater(len(triples), 7)
            for triple in triples:
                turned = is_turned(*case, triple)
                self.assertIs(shows_effect(*case, ('both', triple, other)), turned, triple)
                self.assertIs(shows_effect(*case, ('both', one, triple)), not turned, triple)
                self.assertIs(shows_effect(*case, ('both', triple, triple)), False)
            self.assertIs(shows_effect(*case, ('both', other, one)), False)

    def test_triples_of_longer_houses(self):
        landings = (('a', (0,)),) * 9 + (('a', (1,)), ('a', (1,)), ('a', (0,)))
        case = LAST, ('a', 's'), ('a', 'l')
        _, one, other = effect(*case)
        for first, second in itertools.product(range(12), repeat=2):
            turned = is_turned(*case, (landings, first, second))
            self.assertEqual(turned, second == first + 1)
            self.assertIs(shows_effect(*case, ('both', (landings, first, second), other)), turned)
            self.assertIs(shows_effect(*case, ('both', one, (landings, first, second))), not turned)

    def test_triples_that_are_none(self):
        case = BENT, ('stair', 's'), ('foot', 'l')
        _, one, other = effect(*case)
        landings, first, second = one
        self.assertEqual([landings[first][0], landings[second][0]], ['stair', 'foot'])
        wrong = [(landings, first), (landings, first, second, 0), list(one), (list(landings), first, second), landings, (),
                 (landings, len(landings), second), (landings, first, len(landings)), (landings, -2, second),
                 (landings, first, -len(landings)), (landings, True, second), (landings, first, False), (landings, '1', second),
                 (landings, second, first), (landings, 0, 0), (landings, first, 1), (landings, 2, second), ((), 0, 0),
                 (landings[:2], first, second), (landings[1:], 0, 0), (landings[::-1], 1, 2), (landings + landings, first, second),
                 (tuple((kind, list(position)) for kind, position in landings), first, second),
                 (tuple((kind, (True,)) for kind, _ in landings), first, second), (landings, None, None), None]
        for triple in [*wrong, *any_values()]:
            self.assertIs(shows_effect(*case, ('both', triple, other)), False, triple)
            self.assertIs(shows_effect(*case, ('both', one, triple)), False, triple)
        for value in (('both', one), ('both', one, other, other), ['both', one, other], ('both', (one, other)), ('Both', one, other),
                      (one, other), ('always', one, other), ('never', one, other)):
            self.assertIs(shows_effect(*case, value), False)

    def test_both_where_it_is_always_or_never(self):
        for case in list(shown_cases())[:4]:
            for one, other in itertools.product(list(all_triples(*case, 2)), repeat=2):
                self.assertIs(shows_effect(*case, ('both', one, other)), False)

    def test_any_values(self):
        for case in [*shown_cases(), (BENT, ('stair', 's'), ('foot', 'l')), (ROWS, ('out', 's'), ('p', 'l')),
                     (Book(SMALL).put(3, '  switch s b1 a1\n  lamp l b1 back'), ('foot', 's'), ('foot', 'l'))]:
            for value in any_values():
                for told in (value, (value,), (value, value), ('always', value), ('never', value), ('both', value, value),
                             ('always', (value,) * 4), ('never', (value,) * 4), ('never', ((value,),) * 4),
                             ('both', (value, value, value), (value, value, value))):
                    self.assertIs(shows_effect(*case, told), False, told)


if __name__ == '__main__':
    unittest.main()
