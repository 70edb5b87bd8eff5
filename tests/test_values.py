"""Point 2: what an integer and a name are."""

import unittest

from landingwires.values import is_int, is_name
from samples import any_values


class ValuesTest(unittest.TestCase):

    def test_integers(self):
        for value in any_values():
            self.assertIs(is_int(value), value.__class__ is int)

    def test_names(self):
        for value in ('a', 'z', 'abcdefgh', 'stuvwxyz', 'lives', 'bac'):
            self.assertIs(is_name(value), True)

    def test_no_names(self):
        for value in ('', 'abcdefghi', 'live', 'back', 'A', 'a1', 'a b', 'a\n', '-'):
            self.assertIs(is_name(value), False)
        for value in [*any_values(), ['a'], ('a', 'b')]:
            if not isinstance(value, str):
                self.assertIs(is_name(value), False)


if __name__ == '__main__':
    unittest.main()
