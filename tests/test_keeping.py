"""Points 2, 3 and 10: whether a lamp is lit in all houses just as a rule says."""

import itertools
import unittest

from landingwires.books import Book
from landingwires.errors import NoKind, NoLamp, TooMany
from landingwires.houses import House
from landingwires.keeping import keeps, shows_keeps
from landingwires.rules import Rule, odd
from landingwires.standings import Standing
from samples import (HALL, MIXED, OLD, SMALL, SlowHouse, all_landings, all_marks, all_positions, any_values, bent_values,
                     check_raises, drawn_rules, lots_of_books, moved_values, slow_meeting, slow_move, slow_says)

BOOKS = [Book(OLD), Book(HALL), *lots_of_books(1, 12, 6), *lots_of_books(2, 6, 6)]
# A lamp that is lit if the last switch below it, or its own, stands in 1.
LAST = Book('wires 1\nkind a\n  turn s a1 back live\n  lamp l b1 back\nhouse a a*')
LAST_RULE = Rule('begin no\nno a 0 no\nno a 1 yes\nyes a 0 no\nyes a 1 yes\nlit yes')
# Books and rules by which just 1000 triples come from below, or from above; an item more, and more of them come.
BELOW_BOOK = '\n'.join([
    'wires 4', 'kind k', '  cross s b4 a2 a1 b3', '  switch t a2 live', '  turn u a3 b1 a4', '  lamp l b3 back',
    'kind m', '  turn s a1 a4 b4', '  turn t a3 b1 a1', '  turn u back a4 a3', '  lamp l b2 live', 'kind e',
    'house k* m* k*'])
BELOW_RULE = Rule('\n'.join([
    'begin a', 'a k 000 a', 'a k 101 d', 'a k 011 f', 'a m 001 d', 'a m 011 e', 'a m 101 c', 'b k 000 e', 'b k 011 d',
    'b k 111 a', 'b m 011 c', 'b m 010 e', 'c k 111 f', 'c k 000 d', 'c k 010 e', 'c m 001 e', 'c m 010 e',
    'c m 011 f', 'd k 111 c', 'd k 110 b', 'd m 101 c', 'd m 100 c', 'd m 010 e', 'e k 000 c', 'e k 100 b',
    'e m 101 c', 'e m 001 a', 'e m 100 b', 'f k 100 a', 'f k 110 a', 'f k 001 a', 'f m 100 e', 'f m 101 c', 'lit']))
ABOVE_BOOK = '\n'.join([
    'wires 4', 'kind k', '  cross s b3 a3 a2 b4', '  turn t back a4 b2', '  switch u a1 b1', '  lamp l b4 a3', 'kind m',
    '  turn s b4 a4 b2', '  turn t a1 b1 b2', '  turn u b2 b3 back', '  lamp l live a1', 'kind e', 'house k* m*'])
ABOVE_RULE = Rule('\n'.join([
    'begin a', 'a k 101 a', 'a m 010 d', 'a m 000 b', 'b k 101 e', 'b k 111 f', 'b m 111 d', 'b m 110 e', 'c k 110 f',
    'c m 001 e', 'd k 111 a', 'd k 010 c', 'd m 000 f', 'e k 110 c', 'e k 111 e', 'e m 000 a', 'e m 111 a', 'f k 101 b',
    'f m 101 b', 'f m 100 e', 'lit b c d e f']))


def slow_triples(book, rule):
    """The least triples that are shut, from below and from above, each by going on until nothing comes."""
    bare = tuple(range(book.wires + 2))
    below, above = {(0, bare, rule.begin)}, {(len(book.order), bare, rule.lit)}
    waiting = [*below, *above]
    steps = {}

    def step(kind, position, marks, up):
        key = kind, position, marks, up
        if key not in steps:
            led = book.risen if up else book.sunk
            steps[key] = led(kind, position, Standing(marks)).marks
        return steps[key]

    while waiting:
        triple = waiting.pop()
        gate, marks, told = triple
        for item, (kind, starred) in enumerate(book.order):
            after = item if starred else item + 1
            more = []
            if triple in below and gate == item:
                more += [(after, step(kind, position, marks, True), slow_move(rule, told, kind, position))
                         for position in all_positions(book, kind)] + [(item + 1, marks, told)] * starred
                waiting += set(more) - below
                below |= set(more)
            if triple in above and gate == after:
                led = [(item, step(kind, position, marks, False),
                        tuple(state for state in rule.states if slow_move(rule, state, kind, position) in told))
                       for position in all_positions(book, kind)]
                waiting += set(led) - above
                above |= set(led)
            if triple in above and gate == item + 1 and starred and (item, marks, told) not in above:
                waiting.append((item, marks, told))
                above.add((item, marks, told))
    return below, above


def full_triples(book, rule):
    """All triples that there are, from below and from above."""
    subsets = [some for count in range(len(rule.states) + 1) for some in itertools.combinations(rule.states, count)]
    pairs = list(itertools.product(range(len(book.order) + 1), all_marks(book.wires + 2)))
    return (tuple(sorted((*pair, state) for pair in pairs for state in rule.states)),
            tuple(sorted((*pair, states) for pair in pairs for states in subsets)))


def is_kept(book, kind, lamp, rule, below, above):
    """Whether the lamp is lit just as the rule says at each meeting of two tuples of triples."""
    for item, (name, starred) in enumerate(book.order):
        if name == kind:
            leaving = [(marks, states) for at, marks, states in above if at == (item if starred else item + 1)]
            for gate, one, state in below:
                for position in all_positions(book, kind) if gate == item else ():
                    after = slow_move(rule, state, kind, position)
                    for other in {marks for marks, _ in leaving}:
                        lit = slow_meeting(book, kind, position, one, other).word(0, lamp) == 'lit'
                        if any(lit != (after in states) for marks, states in leaving if marks == other):
                            return False
    return True


def is_shut(book, rule, below, above):
    """Whether both tuples of triples are shut, step by step as the document tells it."""
    bare = tuple(range(book.wires + 2))
    if (0, bare, rule.begin) not in below or (len(book.order), bare, rule.lit) not in above:
        return False
    for item, (kind, starred) in enumerate(book.order):
        gate = item if starred else item + 1
        for at, marks, state in below:
            if at == item:
                led = {(gate, book.risen(kind, position, Standing(marks)).marks, slow_move(rule, state, kind, position))
                       for position in all_positions(book, kind)} | ({(item + 1, marks, state)} if starred else set())
                if not led <= set(below):
                    return False
        for at, marks, states in above:
            led = {(item, marks, states)} if starred and at == item + 1 else set()
            if at == gate:
                led |= {(item, book.sunk(kind, position, Standing(marks)).marks,
                         tuple(state for state in rule.states if slow_move(rule, state, kind, position) in states))
                        for position in all_positions(book, kind)}
            if not led <= set(above):
                return False
    return True


def lamps_of(book):
    """All pairs of a kind and a lamp."""
    return [(kind, lamp) for kind in book.kinds for lamp in book.lamps(kind)]


def asked():
    """Books with a lamp and a rule each, by lot."""
    for number, book in enumerate(BOOKS):
        for kind, lamp in lamps_of(book):
            for rule in drawn_rules(book, 2, number):
                yield book, kind, lamp, rule
    yield LAST, 'a', 'l', LAST_RULE


def kept_cases():
    """Some of them for which keeps tells that it is kept, of items."""
    hall = Book(HALL)
    yield from [(hall, 'stair', 'l', ~odd(hall)), (hall, 'foot', 'l', ~odd(hall)), (Book(OLD), 'foot', 'l', odd(Book(OLD)))]
    dull = Book('wires 1\nkind a\n  switch s b1 a1\n  lamp l a1 back\nkind b\n  lamp m live back\nhouse a* b*')
    yield dull, 'a', 'l', Rule('begin x\nx a 1 y\ny a 0 x\nlit')
    yield dull, 'b', 'm', Rule('begin x\nx b - y\nlit x y')


class KeepsTest(unittest.TestCase):

    def test_against_all_houses_of_up_to_three_landings(self):
        firsts, houses = {}, {}
        for book, kind, lamp, rule in asked():
            found = keeps(book, kind, lamp, rule)
            firsts[found[0]] = firsts.get(found[0], 0) + 1
            slows = houses.setdefault(book.text, [SlowHouse(book, landings) for landings in all_landings(book, 3)])
            broken = [len(slow.landings) for slow in slows
                      if any((slow.word(number, lamp) == 'lit') != slow_says(rule, slow.landings)
                             for number, (name, _) in enumerate(slow.landings) if name == kind)]
            if found[0] == 'keeps':
                self.assertEqual(broken, [], (book.text, kind, lamp, rule.text))
            else:
                word, landings, number = found
                self.assertEqual([word, landings[number][0]], ['breaks', kind])
                lit = SlowHouse(book, landings).word(number, lamp) == 'lit'
                self.assertNotEqual(lit, slow_says(rule, landings))
                self.assertEqual(len(landings), broken[0] if broken else max(len(landings), 4))
        self.assertGreater(min(firsts.values()), 10)
        self.assertEqual(sorted(firsts), ['breaks', 'keeps'])

    def test_what_is_kept_shows_the_least_triples(self):
        some = 0
        for book, kind, lamp, rule in [*asked(), *kept_cases()]:
            found = keeps(book, kind, lamp, rule)
            if found[0] == 'keeps':
                below, above = slow_triples(book, rule)
                self.assertEqual(found, ('keeps', tuple(sorted(below)), tuple(sorted(above))))
                self.assertTrue(is_shut(book, rule, *found[1:]))
                some += 1
        self.assertGreater(some, 10)

    def test_kept_at_each_meeting_or_broken(self):
        for book, kind, lamp, rule in [*list(asked())[::4], *kept_cases()]:
            kept = is_kept(book, kind, lamp, rule, *slow_triples(book, rule))
            self.assertEqual(keeps(book, kind, lamp, rule)[0], 'keeps' if kept else 'breaks')

    def test_what_is_kept_and_what_breaks(self):
        for case in kept_cases():
            self.assertEqual(keeps(*case)[0], 'keeps')
        self.assertEqual(keeps(LAST, 'a', 'l', LAST_RULE)[0], 'breaks')
        book = Book('wires 1\nkind a\n  turn s a1 back live\nkind top\n  lamp l b1 back\nhouse a a* top')
        self.assertEqual(keeps(book, 'top', 'l', LAST_RULE)[0], 'keeps')
        self.assertEqual(keeps(book, 'top', 'l', ~LAST_RULE), ('breaks', (('a', (0,)), ('top', ())), 1))

    def test_breaks_by_as_few_landings_as_can_be(self):
        book = Book('wires 1\nkind a\n  lamp l live back\nhouse a*')
        moves = [f'{state} a - {after}' for state, after in zip('abcde', 'bcdef')]
        rule = Rule('\n'.join(['begin a', *moves, 'lit a b c d e']))
        self.assertEqual(keeps(book, 'a', 'l', rule)[:2], ('breaks', (('a', ()),) * 5))
        self.assertEqual(keeps(book, 'a', 'l', Rule('begin a\nlit a'))[0], 'keeps')

    def test_the_rule_reads_landings_of_all_kinds(self):
        book = Book('wires 1\nkind a\n  lamp l live back\nkind b\nhouse b* a b*')
        rule = Rule('begin x\nx b - y\ny b - z\nlit x y')
        found = keeps(book, 'a', 'l', rule)
        self.assertEqual([found[0], len(found[1]), found[1][found[2]]], ['breaks', 3, ('a', ())])

    def test_lines_of_other_kinds_and_positions_are_none(self):
        book = Book('wires 1\nkind a\n  lamp l live back\nhouse a*')
        rule = Rule('begin x\nx a 0 y\nx b - y\nx a 00 y\nlit x')
        self.assertEqual(keeps(book, 'a', 'l', rule)[0], 'keeps')

    def test_a_kind_that_is_no_item(self):
        book = Book('wires 1\nkind a\n  switch s b1 a1\nkind b\n  lamp l live back\nhouse a a*')
        for rule in drawn_rules(book, 4):
            below, above = slow_triples(book, rule)
            found = keeps(book, 'b', 'l', rule)
            self.assertEqual(found, ('keeps', tuple(sorted(below)), tuple(sorted(above))))
            self.assertIs(shows_keeps(book, 'b', 'l', rule, found), True)
            self.assertIs(shows_keeps(book, 'b', 'l', rule, ('keeps', *full_triples(book, rule))), True)
            self.assertIs(shows_keeps(book, 'b', 'l', rule, ('breaks', (('a', (0,)),), 0)), False)

    def test_upside_down_and_other_names(self):
        hall = Book(HALL)
        self.assertEqual(keeps(~hall, 'stair', 'l', ~odd(~hall))[0], 'keeps')
        other = Book(HALL.replace('foot', 'zz').replace('stair', 'foot').replace('head', 'a').replace('lamp l', 'lamp s'))
        self.assertEqual(keeps(other, 'foot', 's', ~odd(other))[0], 'keeps')
        self.assertEqual(len(keeps(other, 'zz', 's', odd(other))[1]), len(keeps(hall, 'foot', 'l', odd(hall))[1]))

    def test_arguments_by_name_and_again(self):
        book, rule = Book(OLD), odd(Book(OLD))
        found = keeps(rule=rule, lamp='l', kind='foot', book=book)
        self.assertEqual(found, keeps(book, 'foot', 'l', rule))
        self.assertIs(shows_keeps(value=found, rule=rule, lamp='l', kind='foot', book=book), True)


class ErrorsTest(unittest.TestCase):

    def test_no_kind_and_no_lamp(self):
        book, rule = Book(OLD), odd(Book(OLD))
        for value in any_values():
            if value != 'foot':
                check_raises(self, NoKind, value, keeps, book, value, 'l', rule)
                check_raises(self, NoKind, value, keeps, book, value, None, rule)
                check_raises(self, NoKind, value, shows_keeps, book, value, [], rule, None)
            check_raises(self, NoLamp, value, keeps, book, 'foot', value, rule)
            check_raises(self, NoLamp, value, shows_keeps, book, 'foot', value, rule, keeps(book, 'foot', 'l', rule))
        check_raises(self, NoLamp, 'l', keeps, book, 'head', 'l', rule)
        check_raises(self, NoKind, 'top', keeps, book, 'top', 's', rule)

    def check_too_many(self, *case):
        for call, more in ((keeps, ()), (shows_keeps, (None,)), (shows_keeps, (('breaks', (), 0),))):
            with self.assertRaises(TooMany) as caught:
                call(*case, *more)
            self.assertEqual(caught.exception.value, 1000)
            self.assertIs(caught.exception.value.__class__, int)

    def test_just_more_than_a_thousand_triples_from_above(self):
        book = Book(ABOVE_BOOK)
        self.assertEqual(len(slow_triples(book, ABOVE_RULE)[1]), 1000)
        self.assertEqual(keeps(book, 'k', 'l', ABOVE_RULE)[0], 'breaks')
        self.assertIs(shows_keeps(book, 'k', 'l', ABOVE_RULE, keeps(book, 'k', 'l', ABOVE_RULE)), True)
        more = Book(ABOVE_BOOK + ' e')
        self.assertEqual(len(slow_triples(more, ABOVE_RULE)[1]), 1001)
        for kind in ('k', 'm'):
            self.check_too_many(more, kind, 'l', ABOVE_RULE)

    def test_just_more_than_a_thousand_triples_from_below(self):
        book = Book(BELOW_BOOK)
        self.assertEqual(len(slow_triples(book, BELOW_RULE)[0]), 1000)
        found = keeps(book, 'm', 'l', BELOW_RULE)
        self.assertIs(shows_keeps(book, 'm', 'l', BELOW_RULE, found), True)
        more = Book(BELOW_BOOK.replace('house', 'house e'))
        self.assertEqual([len(some) for some in slow_triples(more, BELOW_RULE)], [1001, 34])
        self.check_too_many(more, 'k', 'l', BELOW_RULE)

    def test_errors_ahead_of_too_many(self):
        more = Book(ABOVE_BOOK + ' e')
        check_raises(self, NoKind, 'top', keeps, more, 'top', 'l', ABOVE_RULE)
        check_raises(self, NoLamp, 'm', keeps, more, 'k', 'm', ABOVE_RULE)
        check_raises(self, NoLamp, 'l', shows_keeps, more, 'e', 'l', ABOVE_RULE, None)

    def test_too_many_for_a_kind_that_is_no_item(self):
        text = ABOVE_BOOK.replace('kind e', 'kind out\n  lamp l b1 a1\nkind e')
        self.assertEqual(keeps(Book(text), 'out', 'l', ABOVE_RULE)[0], 'keeps')
        self.check_too_many(Book(text + ' e'), 'out', 'l', ABOVE_RULE)


class ShownTest(unittest.TestCase):

    def test_what_keeps_tells_is_shown(self):
        for case in [*asked(), *kept_cases()]:
            self.assertIs(shows_keeps(*case, keeps(*case)), True)

    def test_all_houses(self):
        for book, kind, lamp, rule in [(LAST, 'a', 'l', LAST_RULE), *list(asked())[::7]]:
            fewest = keeps(book, kind, lamp, rule)
            for landings in all_landings(book, 2):
                slow, says = SlowHouse(book, landings), slow_says(rule, landings)
                for number in range(-1, len(landings) + 1):
                    right = fewest[0] == 'breaks' and len(fewest[1]) == len(landings) and 0 <= number < len(landings)
                    right = right and landings[number][0] == kind and (slow.word(number, lamp) == 'lit') != says
                    self.assertIs(shows_keeps(book, kind, lamp, rule, ('breaks', landings, number)), right)

    def test_longer_houses_are_wrong(self):
        book, rule = Book('wires 1\nkind a\n  lamp l live back\nhouse a*'), Rule('begin x\nlit')
        for many in (1, 2, 3):
            self.assertIs(shows_keeps(book, 'a', 'l', rule, ('breaks', (('a', ()),) * many, 0)), many == 1)

    def test_evidence_larger_than_the_least(self):
        seen = set()
        for book, kind, lamp, rule in kept_cases():
            least = keeps(book, kind, lamp, rule)
            full = full_triples(book, rule)
            if book.wires < 3:
                for below, above in ((full[0], least[2]), (least[1], full[1]), full, least[1:]):
                    right = is_kept(book, kind, lamp, rule, below, above)
                    seen.add((right, (below, above) == least[1:]))
                    self.assertIs(shows_keeps(book, kind, lamp, rule, ('keeps', below, above)), right)
        self.assertEqual(seen, {(True, True), (False, False)})

    def test_evidence_larger_than_the_least_by_many_triples(self):
        case = list(kept_cases())[-1]
        marks = [(0, 0, 2), (0, 1, 2)]
        below = tuple(itertools.product((0, 1, 2), marks, ('x', 'y')))
        above = tuple(itertools.product((0, 1, 2), marks, (('x', 'y'),)))
        self.assertGreater(len(below) + len(above), len(keeps(*case)[1] + keeps(*case)[2]))
        self.assertTrue(is_shut(case[0], case[3], below, above) and is_kept(*case, below, above))
        self.assertIs(shows_keeps(*case, ('keeps', below, above)), True)
        self.assertIs(shows_keeps(*case, ('keeps', below, above[:-1])), False)

    def test_evidence_with_a_triple_more_or_less(self):
        seen = set()
        for book, kind, lamp, rule in list(kept_cases())[2:]:
            least = keeps(book, kind, lamp, rule)[1:]
            for at in (0, 1):
                for triple in full_triples(book, rule)[at]:
                    parts = list(least)
                    parts[at] = tuple(sorted(set(least[at]) ^ {triple}))
                    right = is_shut(book, rule, *parts) and is_kept(book, kind, lamp, rule, *parts)
                    seen.add((right, triple in least[at]))
                    self.assertIs(shows_keeps(book, kind, lamp, rule, ('keeps', *parts)), right, (book.text, parts))
        self.assertEqual(seen, {(True, False), (False, False), (False, True)})

    def test_evidence_that_is_not_ascending(self):
        for case in kept_cases():
            least = keeps(*case)
            for at in (1, 2):
                for moved in moved_values(least[at]):
                    self.assertIs(shows_keeps(*case, (*least[:at], moved, *least[at + 1:])), False)

    def test_bent_evidence(self):
        for case in [*kept_cases(), (LAST, 'a', 'l', LAST_RULE)]:
            for bent in bent_values(keeps(*case)):
                self.assertIs(shows_keeps(*case, bent), False, bent)

    def test_triples_that_are_none(self):
        case = Book(OLD), 'foot', 'l', odd(Book(OLD))
        _, below, above = keeps(*case)
        for told in ((0, (0, 1, 2)), (0, (0, 1, 2), 'none'), (0, (0, 1, 2), ('even',)), (0, (0, 1, 2), 'even', 'odd'),
                     (0, (0, 1, 2), None), (0, (0, 1, 2, 3), 'even'), (3, (0, 1, 2), 'even'), (-1, (0, 1, 2), 'even'),
                     (True, (0, 1, 2), 'even'), (0, (0, True, 2), 'even'), (0, [0, 1, 2], 'even'), [0, (0, 1, 2), 'even'],
                     (0, (0, 0, 1), 'even'), None, 0):
            for at in range(len(below) + 1):
                self.assertIs(shows_keeps(*case, ('keeps', below[:at] + (told,) + below[at:], above)), False)
        for told in ((0, (0, 1, 2)), (0, (0, 1, 2), 'even'), (0, (0, 1, 2), ('none',)), (0, (0, 1, 2), ('odd', 'even')),
                     (0, (0, 1, 2), ('even', 'even')), (0, (0, 1, 2), ['even']), (0, (0, 1, 2), (None,)),
                     (0, (0, 1, 2), (('even',),)), (0, (0, 1, 2, 3), ('even',)), (3, (0, 1, 2), ('even',)),
                     (False, (0, 1, 2), ('even',)), (0, (0, 1, 2), {'even': 1}), None):
            for at in range(len(above) + 1):
                self.assertIs(shows_keeps(*case, ('keeps', below, above[:at] + (told,) + above[at:])), False)

    def test_any_values(self):
        for case in ((Book(OLD), 'foot', 'l', odd(Book(OLD))), (LAST, 'a', 'l', LAST_RULE),
                     (Book(MIXED), 'low', 'l', odd(Book(MIXED)))):
            for value in any_values():
                for told in (value, (value,), (value,) * 3, ('keeps', value, value), ('breaks', value, 0), ('breaks', (value,), 0),
                             ('keeps', (value,), (value,)), ('keeps', ((0, value, 'even'),), ()), ('keeps', (), ()),
                             ('keeps', ((value, (0, 1, 2), 'even'),), ((2, (0, 1, 2), (value,)),)),
                             ('breaks', (('a', (0,)), ('a', value)), 0)):
                    self.assertIs(shows_keeps(*case, told), False, told)
                found = keeps(*case)
                if found[0] == 'breaks' and value.__class__ is not int:
                    self.assertIs(shows_keeps(*case, (*found[:2], value)), False)

    def test_other_forms(self):
        for case in kept_cases():
            least = keeps(*case)
            for value in (least[:2], least + ((),), least[::-1], list(least), ('breaks', *least[1:]), ('Keeps', *least[1:]),
                          ('keeps', least[2], least[1]), least[1:], ('keeps', (), least[2]), ('keeps', least[1], ())):
                self.assertIs(shows_keeps(*case, value), False)

    def test_arguments_stay(self):
        book, rule = Book(SMALL.replace('house', '  lamp l b1 back\nhouse')), Rule('begin x\nlit x')
        found = keeps(book, 'foot', 'l', rule)
        house = House(book, found[1])
        self.assertEqual([found[0], house.word(found[2], 'l'), rule(house)], ['breaks', 'dark', True])
        self.assertEqual(keeps(book, 'foot', 'l', rule), found)


if __name__ == '__main__':
    unittest.main()
