"""Points 2 and 10: rules, as far as they stand by themselves."""

import itertools
import random
import unittest

from landingwires.books import Book
from landingwires.errors import BadRule
from landingwires.houses import House
from landingwires.rules import Rule, odd
from samples import HALL, MIXED, OLD, SMALL, all_landings, any_values, drawn_rules, lots_of_books, slow_move, slow_says

EVEN = 'begin even\neven foot 1 odd\nodd foot 1 even\nlit odd'
SIX = 'begin a\na k - b\nb k - c\nc k - d\nd k - e\ne k - f\nlit a b c d e f'


class RuleCase(unittest.TestCase):

    def check_bad(self, text, number):
        with self.assertRaises(BadRule) as caught:
            Rule(text)
        self.assertEqual(caught.exception.value, number, text)
        self.assertIs(caught.exception.value.__class__, int)

    def check_line(self, line, good):
        """Check that a line can stand between the first one and the last one, or that it cannot."""
        if good:
            self.assertEqual(Rule(f'begin a\n{line}\nlit').text, f'begin a\n{line}\nlit')
        else:
            self.check_bad(f'begin a\na z - a\n{line}\nlit', 3)


class TextTest(RuleCase):

    def test_what_is_no_string(self):
        for value in any_values():
            if not isinstance(value, str):
                self.check_bad(value, 0)
            else:
                self.check_bad(value, 1)

    def test_a_line_missing_at_the_end(self):
        for text in (EVEN, SIX):
            lines = text.split('\n')
            for count in range(1, len(lines)):
                self.check_bad('\n'.join(lines[:count]), count + 1)

    def test_empty_lines_and_what_stands_behind(self):
        lines = EVEN.split('\n')
        for at in range(len(lines) + 1):
            self.check_bad('\n'.join([*lines[:at], '', *lines[at:]]), at + 1)
        for line in ('lit odd', 'lit', 'even foot 0 odd', 'begin even', ' '):
            self.check_bad(f'{EVEN}\n{line}', 5)
            self.check_bad(f'{EVEN}\n{line}\nlit odd', 5)

    def test_blanks(self):
        lines = EVEN.split('\n')
        for at, line in enumerate(lines):
            words = line.split(' ')
            wrong = [line + ' ', ' ' + line, '  ' + line]
            wrong += [' '.join(words[:cut]) + parting + ' '.join(words[cut:]) for cut in range(1, len(words))
                      for parting in ('  ', '')]
            for told in wrong:
                self.check_bad('\n'.join([*lines[:at], told, *lines[at + 1:]]), at + 1)

    def test_first_lines(self):
        for line in ('begin a', 'begin zzzzzzzz', 'begin foot', 'begin kind'):
            self.assertEqual(Rule(line + '\nlit').begin, line[6:])
        for line in ('', 'begin', 'begin begin', 'begin lit', 'begin live', 'begin back', 'begin A', 'begin a1',
                     'begin aaaaaaaaa', 'begin a b', 'Begin a', 'start a', 'lit', 'lit a', 'a k - a', 'begin -'):
            self.check_bad(line + '\nlit', 1)

    def test_lines_of_moves(self):
        for line in ('a k - a', 'b k - c', 'a k 0 b', 'a k 1 b', 'a k 01 b', 'a k 111 b', 'a begin - b', 'a lit - b',
                     'a a - a', 'wires house - kind'):
            self.check_line(line, True)
        for line in ('a k -', 'a k - b c', 'a', 'a k', 'a k 2 b', 'a k 0000 b', 'a k -- b', 'a k 0- b', 'a k -1 b',
                     'a k + b', 'a k x b', 'begin k - a', 'a k - begin', 'a k - lit', 'live k - a', 'a live - a',
                     'a back - a', 'a k - back', 'a K - b', 'A k - b', 'a k - B', 'a k1 - b', 'a kkkkkkkkk - b',
                     'aaaaaaaaa k - b', 'a k - bbbbbbbbb', 'a k (0) b', 'a k 0,1 b', 'begin a', ''):
            self.check_line(line, False)

    def test_no_two_lines_with_one_state_kind_and_position(self):
        self.check_bad('begin a\na k 0 a\na k 0 b\nlit', 3)
        self.check_bad('begin a\na k 0 b\na k 1 b\na k 0 b\nlit', 4)
        self.check_bad('begin a\na k 0 a\na k 0 a\na k 1 b\na m 0 b\nlit', 3)
        self.assertEqual(Rule('begin a\na k 0 a\na k 1 b\nb k 0 a\na m 0 b\na k - b\na k 00 b\nlit').states, ('a', 'b'))

    def test_last_lines(self):
        for line, states in (('lit', ()), ('lit a', ('a',)), ('lit b', ('b',)), ('lit a b c', ('a', 'b', 'c')),
                             ('lit a b c d e f', tuple('abcdef')), ('lit aa ab b', ('aa', 'ab', 'b'))):
            rule = Rule('begin a\n' + line)
            self.assertEqual([rule.lit, rule.states], [states, tuple(sorted({'a', *states}))])
        for line in ('lit b a', 'lit a a', 'lit a b b', 'lit begin', 'lit lit', 'lit live', 'lit A', 'lit 1', 'Lit', 'lits a',
                     'lit a, b', 'lit -', 'lit b c d e f g', 'lit a b c d e f g'):
            self.check_bad('begin a\n' + line, 2)

    def test_sixty_lines_and_one_more(self):
        lines = [f'{state} {kind} {a}{b}{c} a' for state in 'abcd' for kind in 'km' for a in '01' for b in '01' for c in '01']
        for many in (0, 1, 59, 60):
            self.assertEqual(len(Rule('\n'.join(['begin a', *lines[:many], 'lit'])).text.split('\n')), many + 2)
        self.check_bad('\n'.join(['begin a', *lines[:61], 'lit']), 62)
        self.check_bad('\n'.join(['begin a', *lines, 'lit']), 62)
        self.check_bad('\n'.join(['begin a', *lines[:60]]), 62)

    def test_six_states_and_a_seventh_one(self):
        self.assertEqual(Rule(SIX).states, tuple('abcdef'))
        lines = SIX.split('\n')
        self.check_bad('\n'.join([*lines[:6], 'f k - g', 'lit a']), 7)
        self.check_bad('\n'.join([*lines[:6], 'g k - a', 'lit a']), 7)
        self.check_bad('\n'.join([*lines[:6], 'lit g']), 7)
        self.check_bad('\n'.join([*lines[:5], 'f k - g', 'lit a']), 6)
        self.assertEqual(Rule('\n'.join([*lines[:5], 'lit f'])).states, tuple('abcdef'))

    def test_the_first_wrong_line_is_told(self):
        self.check_bad('begin\na\nlit b a', 1)
        self.check_bad('begin a\na\nlit b a', 2)
        self.check_bad('begin a\na k - a\nlit b a\nlit', 3)


class ToldTest(unittest.TestCase):

    def test_properties(self):
        rule = Rule(text=EVEN)
        self.assertIs(rule.text, EVEN)
        self.assertEqual([rule.states, rule.begin, rule.lit], [('even', 'odd'), 'even', ('odd',)])
        rule = Rule('begin z\nm k - b\nlit a y')
        self.assertEqual([rule.states, rule.begin, rule.lit], [('a', 'b', 'm', 'y', 'z'), 'z', ('a', 'y')])

    def test_what_it_says_against_the_slow_reckoning(self):
        said = set()
        for book in [Book(OLD), Book(MIXED), *lots_of_books(1, 4, 4)]:
            for rule in drawn_rules(book, 6):
                for landings in all_landings(book, 2):
                    says = rule(House(book, landings))
                    said.add(says)
                    self.assertIs(says, slow_says(rule, landings))
                    self.assertIs((~rule)(house=House(book, landings)), not says)
        self.assertEqual(said, {True, False})

    def test_the_state_after_each_landing_against_a_slow_walk(self):
        # A rule that says lit at one state only tells whether it is in it.
        lots = random.Random(3)
        for book in [Book(OLD), Book(MIXED), *lots_of_books(1, 4, 18)]:
            for rule in drawn_rules(book, 5, 1):
                lines = rule.text.split('\n')
                rules = {state: Rule('\n'.join([*lines[:-1], 'lit ' + state])) for state in rule.states}
                for landings in lots.choices(all_landings(book, 3), k=8):
                    house, state = House(book, landings), rule.begin
                    for kind, position in landings:
                        state = slow_move(rule, state, kind, position)
                    self.assertEqual([name for name in rules if rules[name](house)], [state])
                    self.assertIs(rule(house), state in rule.lit)

    def test_what_no_line_tells_leaves_the_state(self):
        house = House(Book(MIXED), (('mid', (0, 1, 0)), ('top', ()), ('low', (1, 0))))
        for line, says in (('a mid 010 b', True), ('a mid 01 b', False), ('a mid 011 b', False), ('a mid - b', False),
                           ('a top - b', True), ('a low 10 b', True), ('a top 0 b', False), ('b mid 010 a', False)):
            self.assertIs(Rule(f'begin a\n{line}\nlit b')(house), says, line)

    def test_landings_are_read_from_the_lowest_one_up(self):
        rule = Rule('begin a\na foot 0 b\nb head 0 c\nlit c')
        book = Book('wires 1\nkind foot\n  switch s b1 a1\nkind head\n  switch s b1 a1\nhouse foot head')
        self.assertIs(rule(House(book, (('foot', (0,)), ('head', (0,))))), True)
        self.assertIs(rule(~House(book, (('foot', (0,)), ('head', (0,))))), False)

    def test_the_other_rule(self):
        self.assertEqual((~Rule(EVEN)).text, EVEN[:-3] + 'even')
        self.assertEqual((~Rule(SIX)).text, SIX.replace('lit a b c d e f', 'lit'))
        self.assertEqual((~~Rule(SIX)).text, SIX)
        self.assertEqual((~Rule('begin z\nm k - b\nlit a y')).text, 'begin z\nm k - b\nlit b m z')
        self.assertEqual((~Rule('begin z\nlit')).text, 'begin z\nlit z')

    def test_equal_by_text(self):
        self.assertIs(Rule(EVEN) == Rule(EVEN[:5] + EVEN[5:]), True)
        self.assertIs(Rule(EVEN) != Rule(EVEN), False)
        self.assertIs(Rule(EVEN) == ~Rule(EVEN), False)
        self.assertIs(Rule('begin a\na k - b\na m - b\nlit') == Rule('begin a\na m - b\na k - b\nlit'), False)
        for value in [EVEN, *any_values()]:
            self.assertIs(Rule(EVEN) == value, False)
            self.assertIs(Rule(EVEN) != value, True)


class OddTest(unittest.TestCase):

    def test_text(self):
        self.assertEqual(odd(Book(SMALL)).text, EVEN)
        self.assertEqual(odd(book=Book(MIXED)).text, '\n'.join([
            'begin even', 'even low 01 odd', 'odd low 01 even', 'even low 10 odd', 'odd low 10 even',
            'even mid 001 odd', 'odd mid 001 even', 'even mid 010 odd', 'odd mid 010 even', 'even mid 100 odd',
            'odd mid 100 even', 'even mid 111 odd', 'odd mid 111 even', 'lit odd']))
        self.assertEqual(odd(Book('wires 1\nkind a\nhouse a*')).text, 'begin even\nlit odd')

    def test_the_longest_text(self):
        switches = '\n'.join(f'  switch {name} b1 a1' for name in 'stu')
        book = Book('\n'.join(['wires 1', *[f'kind {kind}\n{switches}' for kind in 'abcd'], 'house a']))
        self.assertEqual(len(odd(book).text.split('\n')), 34)

    def test_an_odd_number_of_switches_stands_in_one(self):
        for book in (Book(HALL), Book(MIXED), *lots_of_books(2, 3, 5)):
            for landings in itertools.islice(all_landings(book, 3), 300):
                ones = sum(turned for _, position in landings for turned in position)
                self.assertIs(odd(book)(House(book, landings)), ones % 2 == 1)


if __name__ == '__main__':
    unittest.main()
