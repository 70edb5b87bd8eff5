"""Points 2, 3 and 16: a desk that is led and asked by lines."""

import random
import unittest

from landingwires.books import Book
from landingwires.desk import Desk
from landingwires.errors import (BadBook, BadLamp, BadPosition, BadSay, BadSwitch, BadWhat, Empty, NoKind, NoLamp,
                                 NoLanding, NoRoom, NoSwitch, NothingToRedo, NothingToUndo, TooMany, WireError)
from landingwires.reaching import can
from landingwires.stairs import Stair, read_stair
from landingwires.switching import effect
from samples import (HALL, MIXED, OLD, SMALL, SlowHouse, any_values, check_raises, lamp_pairs, lots_of_books, switch_pairs)
from test_switching import MANY


class DeskCase(unittest.TestCase):

    def say(self, desk, *lines):
        """What the desk answers."""
        return [desk.say(line) for line in lines]

    def check_refused(self, desk, error, value, line):
        """Check that a line raises an error with an equal value, and that nothing is changed."""
        stair = desk.stair
        ahead = stair.book, stair.landings, stair.journal
        with self.assertRaises(WireError) as caught:
            desk.say(line)
        found = caught.exception
        self.assertEqual([found.__class__, found.value, found.value.__class__], [error, value, value.__class__], line)
        self.assertEqual((stair.book, stair.landings, stair.journal), ahead)
        self.assertIs(desk.stair, stair)


class AnswersTest(DeskCase):

    def test_each_line(self):
        desk = Desk(text=MIXED)
        self.assertEqual(self.say(desk, 'lit', 'add low 01', 'add mid 010', 'add top -', 'turn 1 u', 'set 0 11', 'set 2 -', 'take', 'undo',
                                  'undo', 'redo'), ['-'] + ['done'] * 10)
        self.assertEqual(desk.stair.journal, ('add low 01', 'add mid 010', 'add top -', 'turn 1 u', 'set 0 11', 'set 2 -'))
        self.assertEqual(desk.stair.landings, (('low', (1, 1)), ('mid', (0, 1, 1)), ('top', ())))
        self.assertEqual(self.say(desk, 'take', 'undo', 'word 0 l', 'lit'), ['done', 'done', desk.stair.word(0, 'l'), '-'])

    def test_the_stair(self):
        desk = Desk(HALL)
        self.assertEqual([desk.stair.__class__, desk.stair.book, desk.stair.landings], [Stair, Book(HALL), ()])
        stair = desk.stair
        stair.add('foot', (0,))
        self.assertEqual(self.say(desk, 'add head 0', 'lit'), ['done', '0 l, 1 l'])
        self.assertIs(desk.stair, stair)
        with stair.trial():
            desk.say('turn 0 s')
            self.assertEqual(desk.say('lit'), '-')
        self.assertEqual([desk.say('lit'), stair.done], ['0 l, 1 l', 2])

    def test_lamps_that_are_lit(self):
        desk = Desk('wires 1\nkind a\n  switch s live x\n  lamp l x back\n  lamp k back x\nkind b\n  lamp m b1 back\nhouse a* b')
        self.assertEqual(self.say(desk, 'add a 1', 'lit', 'add a 0', 'add a 1', 'lit', 'turn 0 s', 'lit', 'turn 2 s', 'lit'), [
            'done', '0 l, 0 k', 'done', 'done', '0 l, 0 k, 2 l, 2 k', 'done', '2 l, 2 k', 'done', '-'])
        self.assertEqual(self.say(desk, *['add a 1'] * 8, 'lit')[-1],
                         ', '.join(f'{number} {lamp}' for number in range(3, 11) for lamp in 'lk'))

    def test_words(self):
        for text in (OLD, HALL, MIXED):
            desk = Desk(text)
            for line in {OLD: ('add foot 0', 'add head 0'), HALL: ('add foot 1', 'add stair 0', 'add head 1'),
                         MIXED: ('add low 01', 'add mid 010', 'add top -', 'add low 10')}[text]:
                desk.say(line)
            slow = SlowHouse(desk.stair.book, desk.stair.landings)
            for number, (kind, _) in enumerate(desk.stair.landings):
                for lamp in desk.stair.book.lamps(kind):
                    self.assertEqual(desk.say(f'word {number} {lamp}'), slow.word(number, lamp))

    def test_can(self):
        for book in (Book(OLD), Book(HALL), *lots_of_books(1, 5, 15)):
            desk = Desk(book.text)
            for kind, lamp in lamp_pairs(book):
                for word in ('short', 'lit', 'warm', 'dark'):
                    found = can(book, ('lamp', kind, lamp, word))
                    self.assertEqual(desk.say(f'can {kind} {lamp} {word}'), 'never' if found[0] == 'never' else str(len(found[1])))
        self.assertEqual(self.say(Desk(OLD), 'can foot l warm', 'can foot l short'), ['2', 'never'])

    def test_does(self):
        told = set()
        for book in (Book(OLD), Book(HALL), *lots_of_books(1, 5, 16)):
            desk = Desk(book.text)
            for mine in switch_pairs(book):
                for theirs in lamp_pairs(book):
                    answer = desk.say(f"does {' '.join(mine)} {' '.join(theirs)}")
                    self.assertEqual(answer, effect(book, mine, theirs)[0])
                    told.add(answer)
        self.assertEqual(told, {'always', 'never', 'both', 'none'})

    def test_asked_of_the_book_of_the_stair(self):
        desk = Desk(HALL)
        self.assertEqual(self.say(desk, 'does stair s foot l', 'can foot l warm'), ['always', 'never'])
        desk.stair.change(Book(HALL).put(6, '  switch s b1 a1\n  link b2 a2').put(4, '  lamp l a3 live'))
        self.assertEqual(self.say(desk, 'does stair s foot l', 'can foot l warm'), ['never', '2'])
        self.assertEqual(self.say(desk, 'undo', 'does stair s foot l', 'can foot l warm'), ['done', 'always', 'never'])
        self.assertEqual(self.say(desk, 'redo', 'does stair s foot l', 'undo'), ['done', 'never', 'done'])

    def test_undo_and_redo(self):
        desk = Desk(HALL)
        self.check_refused(desk, NothingToUndo, None, 'undo')
        self.check_refused(desk, NothingToRedo, None, 'redo')
        self.say(desk, 'add foot 0', 'add head 0', 'undo', 'undo', 'redo')
        self.assertEqual(desk.stair.journal, ('add foot 0',))
        desk.say('add stair 0')
        self.check_refused(desk, NothingToRedo, None, 'redo')

    def test_journals_are_read_as_they_are_said(self):
        lots = random.Random(13)
        desk = Desk(HALL)
        lines = ['add foot 0', 'add stair 0', 'add stair 1', 'add head 1', 'take', 'turn 0 s', 'turn 1 s', 'set 0 1', 'set 2 0', 'undo', 'redo']
        for _ in range(200):
            try:
                self.assertEqual(desk.say(lots.choice(lines)), 'done')
            except WireError:
                pass
            self.assertEqual(read_stair(Book(HALL), desk.stair.journal), desk.stair)
        self.assertGreater(len(set(desk.stair.journal)), 4)

    def test_answers_are_strings(self):
        desk = Desk(OLD)
        for line in ('add foot 0', 'add head 0', 'word 0 l', 'turn 1 s', 'lit', 'can foot l warm', 'does head s foot l', 'undo', 'redo', 'take'):
            self.assertIs(desk.say(line=line).__class__, str)


class ErrorsTest(DeskCase):

    def test_bad_book(self):
        for value in any_values():
            with self.assertRaises(BadBook) as caught:
                Desk(value)
            self.assertEqual(caught.exception.value, 1 if isinstance(value, str) else 0)
        lines = HALL.split('\n')
        for many in range(1, len(lines)):
            with self.assertRaises(BadBook) as caught:
                Desk(text='\n'.join(lines[:many]))
            self.assertEqual(caught.exception.value, many + 1)

    def test_bad_say(self):
        desk = Desk(HALL)
        desk.say('add foot 0')
        for value in any_values():
            check_raises(self, BadSay, value, desk.say, value)
            check_raises(self, BadSay, value, desk.say, line=value)
        for line in ('', ' ', 'add', 'add stair', 'add stair 0 0', 'add  stair 0', 'add stair  0', ' add stair 0', 'add stair 0 ', 'Add stair 0',
                     'take 0', ' take', 'take ', 'takes', 'turn', 'turn 0', 'turn 0 s s', 'turn  0 s', 'turn 0  s', 'set', 'set 0', 'set 0 0 0',
                     'set 0  0', 'undo 1', 'redo 1', 'undo ', ' redo', 'lit ', 'lit 0', 'Lit', 'word', 'word 0', 'word 0 l l', 'word  0 l', 'word 0 l ',
                     'can', 'can foot', 'can foot l', 'can foot l lit lit', 'can  foot l lit', 'can foot l  lit', 'does', 'does foot s foot',
                     'does foot s foot l l', 'does foot  s foot l', 'does foot s foot l ', 'keep', 'trial', 'journal', 'house', 'done', 'never',
                     'change ' + HALL.replace('\n', '/'), 'change', 'change foot', 'add stair 0\n', '\nadd stair 0', 'add\nstair 0', 'take\n', 'lit\nlit',
                     'word 0 l\n', 'can foot l\nlit', '\n', 'add stair\n0 0', 'copy', 'short', 'add stair ', 'add  0',
                     'add  ', 'turn 0 ', 'turn  s', 'set 0 ', 'set  0', 'word 0 ', 'word  l', 'can foot l ', 'can foot  lit', 'can  l lit',
                     'does foot s foot ', 'does foot s  l', 'does  s foot l', ' foot s foot l'):
            check_raises(self, BadSay, line, desk.say, line)
        self.assertEqual(desk.stair.journal, ('add foot 0',))

    def test_numbers(self):
        desk = Desk(HALL)
        desk.say('add foot 0')
        for word in ('00', '01', '+0', '-0', '0.0', '1_0', '0x0', 'zero', '-', '--1', '1-', '(0)', '-01', '00000', '1e0', '0,'):
            for line in (f'turn {word} s', f'set {word} 0', f'word {word} l', f'turn {word} q', f'set {word} 2'):
                check_raises(self, BadSay, line, desk.say, line)
        for word in ('-1', '1', '60', '-12', '123456789012', '-123456789012', '10'):
            for line in (f'turn {word} s', f'set {word} 0', f'word {word} l', f'turn {word} q', f'set {word} 2', f'word {word} q'):
                self.check_refused(desk, NoLanding, int(word), line)

    def test_positions(self):
        desk = Desk(MIXED)
        self.say(desk, 'add low 01', 'add mid 010', 'add top -')
        for word in ('0', '000', '0000', '-', '2', '02', 'x', '0-', '(0,1)', '--', '-0', 'add', '00000000', '01,'):
            self.check_refused(desk, BadPosition, word, f'add low {word}')
            self.check_refused(desk, BadPosition, word, f'set 0 {word}')
        for word in ('0', '00', '0000', '-', '210'):
            self.check_refused(desk, BadPosition, word, f'add mid {word}')
            self.check_refused(desk, BadPosition, word, f'set 1 {word}')
        for word in ('0', '1', '--', 'none', '()'):
            self.check_refused(desk, BadPosition, word, f'add top {word}')
            self.check_refused(desk, BadPosition, word, f'set 2 {word}')
        self.assertEqual(self.say(desk, 'set 0 10', 'set 1 111', 'set 2 -'), ['done'] * 3)

    def test_positions_in_their_turn(self):
        desk = Desk(HALL)
        desk.say('add foot 0')
        for word in ('2', '00', '-', 'x'):
            self.check_refused(desk, NoKind, 'cellar', f'add cellar {word}')
            self.check_refused(desk, NoLanding, 7, f'set 7 {word}')
            self.check_refused(desk, BadPosition, word, f'add foot {word}')
            self.check_refused(desk, BadPosition, word, f'add stair {word}')
        self.check_refused(desk, NoRoom, 'foot', 'add foot 0')
        small = Desk(SMALL)
        for _ in range(60):
            small.say('add foot 1')
        self.check_refused(small, NoRoom, 'foot', 'add foot 1')
        self.check_refused(small, BadPosition, '11', 'add foot 11')
        self.check_refused(small, NoKind, 'Foot', 'add Foot 1')

    def test_errors_of_the_stair(self):
        desk = Desk(HALL)
        self.check_refused(desk, Empty, None, 'take')
        self.check_refused(desk, NoKind, '0', 'add 0 0')
        self.check_refused(desk, NoRoom, 'head', 'add head 0')
        desk.say('add foot 0')
        for word in ('t', 'S', 'foot', 'l', '0', '-'):
            self.check_refused(desk, NoSwitch, word, f'turn 0 {word}')
        for word in ('s', 'L', 'foot', '0'):
            self.check_refused(desk, NoLamp, word, f'word 0 {word}')
        self.check_refused(desk, NoLanding, 1, 'word 1 l')
        self.check_refused(desk, NoLanding, -1, 'word -1 q')

    def test_errors_of_the_functions(self):
        desk = Desk(HALL)
        for words in (('foot', 'l', 'bright'), ('foot', 'm', 'lit'), ('cellar', 'l', 'lit'), ('foot', 's', 'lit'), ('0', '1', '2'), ('foot', 'l', 'Lit')):
            self.check_refused(desk, BadWhat, ('lamp', *words), 'can ' + ' '.join(words))
        for words in (('foot', 't'), ('cellar', 's'), ('foot', 'l'), ('s', 'foot'), ('0', '0')):
            self.check_refused(desk, BadSwitch, words, f"does {' '.join(words)} foot l")
            self.check_refused(desk, BadSwitch, words, f"does {' '.join(words)} foot q")
            if words != ('foot', 'l'):
                self.check_refused(desk, BadLamp, words, f"does foot s {' '.join(words)}")
        self.check_refused(Desk(MANY + ' e'), TooMany, 1000, 'does k s k l')
        self.assertEqual(Desk(MANY + ' e').say('does out s k l'), 'none')


if __name__ == '__main__':
    unittest.main()
