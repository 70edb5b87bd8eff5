"""Points 2 and 17: the errors."""

import unittest

from landingwires import errors
from samples import any_values

NAMES = '''BadMarks, BadWires, OtherWires, BadBook, NoKind, NoLine, BadChange, BadPosition, BadStanding, BadLandings,
NoLanding, NoLamp, BadPlace, NoSwitch, BadWhat, BadSwitch, BadLamp, TooMany, BadRule, Unlike, BadBooks, BadTrials,
BadKinds, BadWord, BadOffers, BadWishes, NoRoom, Empty, NothingToUndo, NothingToRedo, NoTrial, BadJournal,
BadSay'''.replace('\n', ' ').split(', ')


class ErrorsTest(unittest.TestCase):

    def test_all_names_of_the_interface_are_there(self):
        self.assertEqual(len(NAMES), 33)
        for name in NAMES:
            self.assertTrue(hasattr(errors, name), name)

    def test_each_derives_directly_from_wire_error(self):
        for name in NAMES:
            self.assertEqual(getattr(errors, name).__bases__, (errors.WireError,), name)

    def test_wire_error_derives_from_value_error(self):
        self.assertEqual(errors.WireError.__bases__, (ValueError,))

    def test_no_other_error_is_defined(self):
        found = [name for name, thing in vars(errors).items() if isinstance(thing, type)]
        self.assertEqual(sorted(found), sorted([*NAMES, 'WireError']))

    def test_each_keeps_any_value(self):
        for name in [*NAMES, 'WireError']:
            for value in any_values():
                error = getattr(errors, name)(value)
                self.assertIs(error.value, value, name)

    def test_the_value_may_be_passed_by_name(self):
        for name in [*NAMES, 'WireError']:
            self.assertEqual(getattr(errors, name)(value=3).value, 3, name)

    def test_there_is_one_argument_only(self):
        for name in [*NAMES, 'WireError']:
            for args in ((), (1, 2)):
                with self.assertRaises(TypeError):
                    getattr(errors, name)(*args)

    def test_each_can_be_caught_as_a_value_error(self):
        for name in NAMES:
            with self.assertRaises(ValueError):
                raise getattr(errors, name)(None)


if __name__ == '__main__':
    unittest.main()
