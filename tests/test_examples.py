r"""The examples of the document, word for word.

Section 4:

>>> from landingwires.standings import Standing
>>> one, other = Standing((0, 0, 2, 3, 4)), Standing((0, 1, 1, 3, 1))
>>> [(one | other).marks, (one & other).marks, one.within(one | other), one.within(other), (2, 4) in other, other.is_short]
[(0, 0, 0, 3, 0), (0, 1, 2, 3, 4), True, False, True, False]
>>> [Standing.bare(1).marks, one.wires, (0, 0) in one]
[(0, 1, 2), 3, True]

Section 5:

>>> from landingwires.books import Book
>>> foot, stair = 'kind foot\n  turn s live a1 a2\n  lamp l a3 back', 'kind stair\n  cross s b1 a1 b2 a2\n  link b3 a3\n  lamp l a3 back'
>>> hall = Book('\n'.join(['wires 3', foot, stair, 'kind head\n  turn s b3 b1 b2\n  lamp l b3 back', 'house foot stair* head']))
>>> [hall.kinds, hall.order[1], hall.switches('head'), len(hall), hall[7], (~hall)[6], (~hall)[12]]
[('foot', 'stair', 'head'), ('stair', True), ('s',), 12, '  link b3 a3', '  cross s a1 b1 a2 b2', 'house head stair* foot']
>>> bare = Standing.bare(3)
>>> up = hall.risen('foot', (0,), bare)
>>> [up.marks, hall.risen('stair', (1,), up).marks, hall.sunk('head', (1,), bare).marks, hall.put(7, '').sunk('stair', (0,), Standing((0, 0, 0, 3, 4))).marks]
[(0, 1, 2, 0, 4), (0, 1, 2, 1, 4), (0, 1, 1, 3, 4), (0, 0, 2, 3, 4)]
"""

import doctest
import sys
import unittest


class ExamplesTest(unittest.TestCase):

    def test_examples(self):
        told = doctest.testmod(sys.modules[__name__])
        self.assertEqual((told.failed, told.attempted), (0, 11))


if __name__ == '__main__':
    unittest.main()
