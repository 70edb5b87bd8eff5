r"""The examples of the document, word for word.

Section 4:

>>> from landingwires.standings import Standing
>>> one, other = Standing((0, 0, 2, 3, 4)), Standing((0, 1, 1, 3, 1))
>>> [(one | other).marks, (one & other).marks, one.within(one | other), one.within(other), (2, 4) in other, other.is_short]
[(0, 0, 0, 3, 0), (0, 1, 2, 3, 4), True, False, True, False]
>>> [Standing.bare(1).marks, one.wires, (0, 0) in one]
[(0, 1, 2), 3, True]

Section 5:

>>> from landingwires.books import Book
>>> foot, stair = 'kind foot\n  turn s live a1 a2\n  lamp l a3 back', 'kind stair\n  cross s b1 a1 b2 a2\n  link b3 a3\n  lamp l a3 back'
>>> hall = Book('\n'.join(['wires 3', foot, stair, 'kind head\n  turn s b3 b1 b2\n  lamp l b3 back', 'house foot stair* head']))
>>> [hall.kinds, hall.order[1], hall.switches('head'), len(hall), hall[7], (~hall)[6], (~hall)[12]]
[('foot', 'stair', 'head'), ('stair', True), ('s',), 12, '  link b3 a3', '  cross s a1 b1 a2 b2', 'house head stair* foot']
>>> bare = Standing.bare(3)
>>> up = hall.risen('foot', (0,), bare)
>>> [up.marks, hall.risen('stair', (1,), up).marks, hall.sunk('head', (1,), bare).marks, hall.put(7, '').sunk('stair', (0,), Standing((0, 0, 0, 3, 4))).marks]
[(0, 1, 2, 0, 4), (0, 1, 2, 1, 4), (0, 1, 1, 3, 4), (0, 0, 2, 3, 4)]

Section 6:

>>> from landingwires.houses import House
>>> house = House(hall, (('foot', (0,)), ('stair', (1,)), ('head', (1,))))
>>> [house.lit, house.turned(0, 's').lit, house.joined((0, 'live'), (2, 'b3')), house.word(1, 'l')]
[((0, 'l'), (1, 'l'), (2, 'l')), (), True, 'lit']
>>> [house.below(2).marks, house.above(0).marks, (~house).below(2).marks, (~house).lit == house.lit]
[(0, 1, 2, 1, 4), (0, 1, 0, 3, 4), (0, 1, 0, 3, 4), True]
>>> old = Book('wires 1\nkind foot\n  turn s x live back\n  lamp l x a1\nkind head\n  turn s b1 live back\nhouse foot head')
>>> [House(old, (('foot', (one,)), ('head', (other,)))).word(0, 'l') for one in (0, 1) for other in (0, 1)]
['warm', 'lit', 'lit', 'dark']

Section 7:

>>> from landingwires.burning import burns, shows_burns
>>> low = House(old, (('foot', (0,)), ('head', (0,))))
>>> [burns(low, 0, 'l')[0], shows_burns(low, 0, 'l', ('warm', ((0, 'x'), (0, 'live')), ((0, 'back'), (1, 'back'))))]
['warm', True]
>>> shows_burns(low, 0, 'l', ('warm', ((0, 'a1'), (1, 'b1'), (1, 'live')), ((0, 'back'),)))
False

Section 8:

>>> from landingwires.reaching import can, shows_can, standings
>>> standings(old)
(((0, (0, 1, 2)), (1, (0, 1, 2)), (2, (0, 1, 2))), ((0, (0, 1, 2)), (1, (0, 0, 2)), (1, (0, 1, 0)), (2, (0, 1, 2))))
>>> [len(some) for some in standings(hall)]
[6, 6]
>>> [can(hall, ('lamp', 'stair', 'l', 'warm'))[0], can(old, ('lamp', 'foot', 'l', 'warm')), shows_can(hall, ('short',), ('never',) + standings(hall))]
['never', ('can', (('foot', (0,)), ('head', (0,))), 0), True]
>>> [len(can(hall, ('joined', 'stair', 'a2', 'live'))[1]), can(hall, ('joined', 'stair', 'a1', 'a2'))[0]]
[3, 'never']

Section 9:

>>> from landingwires.switching import effect
>>> [effect(hall, ('foot', 's'), ('stair', 'l'))[0], effect(hall, ('stair', 's'), ('stair', 'l'))[0], effect(old, ('head', 's'), ('foot', 'l'))[0]]
['always', 'always', 'always']
>>> bent = hall.put(6, '  switch s b1 a1\n  link b2 a2')
>>> [effect(bent, ('stair', 's'), ('foot', 'l'))[0], effect(bent, ('foot', 's'), ('head', 'l'))[0]]
['both', 'both']

Section 10:

>>> from landingwires.keeping import keeps
>>> from landingwires.rules import odd, Rule
>>> rule = odd(hall)
>>> [rule.states, len(rule.text.split('\n')), rule(house), (~rule).lit, (~rule)(house), rule.text.split('\n')[1]]
[('even', 'odd'), 8, False, ('even',), True, 'even foot 1 odd']
>>> [keeps(hall, 'stair', 'l', ~rule)[0], keeps(hall, 'stair', 'l', rule)[0], len(keeps(hall, 'foot', 'l', rule)[1]), keeps(old, 'foot', 'l', odd(old))[0]]
['keeps', 'breaks', 2, 'keeps']

Section 11:

>>> from landingwires.comparing import alike, needless
>>> [alike(hall, hall.put(6, '  cross s b2 a2 b1 a1'))[0], len(alike(hall, hall.put(6, '  cross s b1 a2 b2 a1'))[1]), needless(hall.put(7, '  link b3 a3\n  link a3 x')), needless(hall)]
['alike', 3, (8,), ()]

Section 12:

>>> from landingwires.telling import fitting, parting
>>> books = (hall, hall.put(6, '  cross s b1 a2 b2 a1'), hall.put(7, '  link b3 a1'))
>>> [fitting(books, ((house.landings, house.lit),)), fitting(books, ()), len(parting(books[:2])[1]), parting(books[:1])]
[(0,), (0, 1, 2), 3, ('one',)]

Section 13:

>>> from landingwires.counting import many, shorts
>>> kinds = ('foot',) + ('stair',) * 98 + ('head',)
>>> [many(hall, kinds, 50, 'l', 'lit') == 2 ** 64 * 2 ** 35, shorts(hall, kinds), many(old, ('foot', 'head'), 0, 'l', 'warm')]
[True, 0, 1]

Section 14:

>>> from landingwires.choosing import cheapest
>>> cheapest(old, ((3, '  switch s live x', 2), (6, '  link b1 back', 1)), (('never', ('lamp', 'foot', 'l', 'warm')), ('always', ('foot', 's'), ('foot', 'l'))))
('choice', 1, ((6, '  link b1 back', 1),), (((), 0),))

Section 15:

>>> from landingwires.stairs import read_stair, Stair
>>> steps = Stair(hall)
>>> [steps.add(kind, (0,)) for kind in ('foot', 'stair', 'stair', 'head')][0] is None
True
>>> [len(steps.lit), steps.is_house, steps.tried(lambda held: held.turn(1, 's')), steps.done, steps.journal[3], read_stair(hall, steps.journal) == steps]
[4, True, None, 4, 'add head 0', True]
>>> steps[2] = (1,)
>>> [steps.lit, steps.undo(), len(steps.lit), steps.word(3, 'l')]
[(), None, 4, 'lit']

Section 16:

>>> from landingwires.desk import Desk
>>> desk = Desk(old.text)
>>> [desk.say(line) for line in ('add foot 0', 'add head 0', 'word 0 l', 'turn 1 s', 'lit', 'can foot l warm', 'does head s foot l', 'undo', 'lit')]
['done', 'done', 'warm', 'done', '0 l', '2', 'always', 'done', '-']
"""

import doctest
import sys
import unittest


class ExamplesTest(unittest.TestCase):

    def test_examples(self):
        told = doctest.testmod(sys.modules[__name__])
        self.assertEqual((told.failed, told.attempted), (0, 54))


if __name__ == '__main__':
    unittest.main()
