"""Points 2 and 4: standings."""

import itertools
import unittest

from landingwires.books import Book
from landingwires.errors import BadMarks, BadWires, OtherWires
from landingwires.standings import Standing
from samples import SMALL, all_marks, all_standings, any_values, check_raises


def pairs_in(standing):
    """All pairs of numbers of things that hang together."""
    things = range(standing.wires + 2)
    return {pair for pair in itertools.product(things, things) if pair in standing}


def closed(pairs):
    """The pairs, and those to which rows of them lead."""
    while True:
        more = {(one, last) for one, other in pairs for first, last in pairs if other == first} | pairs
        if more == pairs:
            return pairs
        pairs = more


class MarksTest(unittest.TestCase):

    def test_all_marks_are_kept(self):
        for things, count in ((3, 5), (4, 15), (5, 52), (6, 203)):
            found = all_marks(things)
            self.assertEqual(len(found), count)
            for marks in found:
                standing = Standing(marks)
                self.assertIs(standing.marks, marks)
                self.assertEqual(standing.wires, things - 2)
                self.assertIs(standing.is_short, marks[-1] == marks[-2])

    def test_just_the_marks_of_standings_are_accepted(self):
        for things in (3, 4, 5):
            right = set(all_marks(things))
            for marks in itertools.product(range(-1, things + 1), repeat=things):
                if marks in right:
                    self.assertEqual(Standing(marks).marks, marks)
                else:
                    check_raises(self, BadMarks, marks, Standing, marks)

    def test_wrong_numbers_of_marks(self):
        for marks in ((), (0,), (0, 1), (0, 0), (0, 1, 2, 3, 4, 5, 6), (0,) * 7):
            check_raises(self, BadMarks, marks, Standing, marks)

    def test_bools_are_no_integers(self):
        for marks in ((False, 1, 2), (0, True, 2), (0, 1, True), (0, 0, False), (0, True, 1, 3)):
            check_raises(self, BadMarks, marks, Standing, marks)

    def test_a_list_is_no_tuple(self):
        for marks in ([0, 1, 2], [0, 0, 0, 0], ([0], 1, 2), ((0,), 1, 2)):
            check_raises(self, BadMarks, marks, Standing, marks)

    def test_a_mark_that_is_not_the_mark_of_itself(self):
        for marks in ((0, 0, 1), (0, 1, 0, 2), (0, 0, 2, 1, 4), (0, 0, 1, 2, 3, 4)):
            check_raises(self, BadMarks, marks, Standing, marks)

    def test_marks_out_of_bounds(self):
        for marks in ((1, 1, 2), (0, 2, 2), (0, 1, 3), (0, 1, -1), (-1, 1, 2), (0, 1, 2, 3, 10 ** 11)):
            check_raises(self, BadMarks, marks, Standing, marks)

    def test_other_things_among_marks(self):
        for wrong in ('0', None, (), [], {}, 'live', Standing.bare(1)):
            for marks in ((wrong, 1, 2), (0, wrong, 2), (0, 1, wrong)):
                check_raises(self, BadMarks, marks, Standing, marks)

    def test_other_values_than_marks(self):
        for value in any_values():
            check_raises(self, BadMarks, value, Standing, value)

    def test_marks_by_name(self):
        self.assertEqual(Standing(marks=(0, 0, 2)).marks, (0, 0, 2))

    def test_properties_are_of_the_kinds_told(self):
        standing = Standing((0, 1, 1))
        self.assertIs(standing.is_short, True)
        self.assertIs(Standing((0, 0, 2)).is_short, False)
        self.assertIs(standing.wires.__class__, int)
        self.assertIs(standing.marks.__class__, tuple)


class BareTest(unittest.TestCase):

    def test_nothing_hangs_together(self):
        for wires in (1, 2, 3, 4):
            self.assertEqual(Standing.bare(wires).marks, tuple(range(wires + 2)))
            self.assertIs(Standing.bare(wires).is_short, False)

    def test_wrong_numbers_of_wires(self):
        for wires in (0, 5, -1, 10 ** 11, True, False, None, '1', (1,), [1], {1: 1}, Standing.bare(1), Book(SMALL)):
            check_raises(self, BadWires, wires, Standing.bare, wires)

    def test_wires_by_name_and_off_an_object(self):
        self.assertEqual(Standing.bare(wires=2).marks, (0, 1, 2, 3))
        self.assertEqual(Standing.bare(1).bare(3).marks, (0, 1, 2, 3, 4))


class InTest(unittest.TestCase):

    def test_all_pairs_of_things(self):
        for wires in (1, 2, 3):
            for standing in all_standings(wires):
                marks = standing.marks
                for one, other in itertools.product(range(wires + 2), repeat=2):
                    self.assertIs((one, other) in standing, marks[one] == marks[other])

    def test_numbers_of_no_things(self):
        for pair in ((-1, -1), (-1, 0), (0, -3), (3, 3), (0, 3), (3, 0), (-1, 2), (10 ** 11, 0)):
            self.assertNotIn(pair, Standing((0, 0, 0)))
        self.assertIn((5, 0), Standing((0, 1, 2, 3, 4, 0)))
        self.assertNotIn((6, 0), Standing((0, 1, 2, 3, 4, 0)))

    def test_no_pairs(self):
        no_pairs = [value for value in any_values() if value != (0, 1)]
        for value in [*no_pairs, (0, 0, 0), (0,), [0, 0], (True, True), (0, False), (False, 0), (True, 0), ('0', '0'),
                      (None, None), ((0, 0),), (0, (0,)), ((), ()), {0: 0}, '00']:
            self.assertIs(value in Standing((0, 0, 0)), False)
        self.assertIs((0, 1) in Standing((0, 0, 0)), True)


class TogetherTest(unittest.TestCase):

    def test_or_is_what_hangs_together_by_either_or_through_several(self):
        for wires in (1, 2):
            for one, other in itertools.product(all_standings(wires), repeat=2):
                self.assertEqual(pairs_in(one | other), closed(pairs_in(one) | pairs_in(other)))

    def test_and_is_what_hangs_together_by_both(self):
        for wires in (1, 2):
            for one, other in itertools.product(all_standings(wires), repeat=2):
                self.assertEqual(pairs_in(one & other), pairs_in(one) & pairs_in(other))

    def test_within(self):
        for wires in (1, 2):
            for one, other in itertools.product(all_standings(wires), repeat=2):
                self.assertIs(one.within(other), pairs_in(one) <= pairs_in(other))

    def test_of_four_wires(self):
        one, other = Standing((0, 1, 0, 3, 1, 3)), Standing((0, 1, 2, 2, 4, 4))
        self.assertEqual((one | other).marks, (0, 0, 0, 0, 0, 0))
        self.assertEqual((one & other).marks, (0, 1, 2, 3, 4, 5))
        self.assertEqual((Standing((0, 0, 2, 3, 3, 0)) & Standing((0, 1, 2, 3, 3, 1))).marks, (0, 1, 2, 3, 3, 1))
        self.assertIs(one.within(other), False)
        self.assertIs((one & other).within(other), True)

    def test_through_several(self):
        one, other = Standing((0, 0, 2, 2, 4, 4)), Standing((0, 1, 1, 3, 3, 5))
        self.assertEqual((one | other).marks, (0, 0, 0, 0, 0, 0))
        one, other = Standing((0, 1, 2, 3, 2, 1)), Standing((0, 1, 2, 0, 4, 4))
        self.assertEqual((one | other).marks, (0, 1, 1, 0, 1, 1))

    def test_other_numbers_of_wires(self):
        for some, others in itertools.permutations((1, 2, 3, 4), 2):
            one, other = Standing.bare(some), Standing.bare(others)
            check_raises(self, OtherWires, other, lambda: one | other)
            check_raises(self, OtherWires, other, lambda: one & other)
            check_raises(self, OtherWires, other, one.within, other)
            check_raises(self, OtherWires, other, one.within, other=other)

    def test_arguments_stay(self):
        one, other = Standing((0, 0, 2)), Standing((0, 1, 1))
        for result in (one | other, one & other):
            self.assertIsInstance(result, Standing)
        self.assertIs(one.within(other=other), False)
        self.assertEqual([one.marks, other.marks], [(0, 0, 2), (0, 1, 1)])


class EqualTest(unittest.TestCase):

    def test_by_marks(self):
        some = all_standings(1) + all_standings(2)
        for at, one in enumerate(some):
            for number, other in enumerate(some):
                self.assertIs(one == other, at == number)
                self.assertIs(one != other, at != number)
        self.assertIs(Standing((0, 0, 2)) == Standing((0, 0, 2)), True)
        self.assertIs(Standing((0, 0, 2)) != Standing((0, 0, 2)), False)

    def test_nothing_else(self):
        one = Standing((0, 1, 2))
        for value in [(0, 1, 2), [0, 1, 2], *any_values()]:
            if not isinstance(value, Standing):
                self.assertIs(one == value, False)
                self.assertIs(value == one, False)
                self.assertIs(one != value, True)


if __name__ == '__main__':
    unittest.main()
