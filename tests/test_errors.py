"""The error classes: point 0.3 and the interface's section errors.py."""

import unittest

from behindexits import errors

ATTRIBUTES = {
    "NoLiterals": ("at",), "BadStates": ("why",), "NoName": ("term",), "NoStates": (), "Unlike": (),
    "BadProgram": ("place", "why"), "NoPlace": ("place",), "NoInputs": (), "NoAnswers": ("at",), "NoSteps": ("steps",),
    "TooLong": (), "TooFew": ("many",), "Ended": (), "NoWay": ("way",), "Never": ("way",), "NoPath": (),
    "NoValues": (), "TooMany": ("most",), "BadChoices": ("at",), "BadText": ("row",),
}


class TestErrors(unittest.TestCase):
    def test_the_base_is_a_value_error(self):
        self.assertTrue(issubclass(errors.BehindError, ValueError))
        self.assertEqual(errors.BehindError.__bases__, (ValueError,))

    def test_all_are_there_and_stand_right_under_the_base(self):
        for name in ATTRIBUTES:
            self.assertEqual(getattr(errors, name).__bases__, (errors.BehindError,), name)

    def test_none_stands_under_another_one(self):
        classes = [getattr(errors, name) for name in ATTRIBUTES]
        for one in classes:
            for other in classes:
                self.assertEqual(issubclass(one, other), one is other)

    def test_there_are_no_others(self):
        found = {name for name, thing in vars(errors).items() if isinstance(thing, type)}
        self.assertEqual(found, set(ATTRIBUTES) | {"BehindError"})

    def test_values_are_attributes_by_position(self):
        for name, attributes in ATTRIBUTES.items():
            values = [object() for _ in attributes]
            error = getattr(errors, name)(*values)
            for attribute, value in zip(attributes, values):
                self.assertIs(getattr(error, attribute), value, name)

    def test_values_may_be_anything(self):
        for name, attributes in ATTRIBUTES.items():
            for thing in ([], {}, (), None, [[{}]], 10 ** 99):
                error = getattr(errors, name)(*[thing for _ in attributes])
                self.assertEqual([getattr(error, attribute) for attribute in attributes], [thing for _ in attributes])
                self.assertIsInstance(str(error), str)

    def test_a_missing_value_is_refused(self):
        for name, attributes in ATTRIBUTES.items():
            if attributes:
                with self.assertRaises(TypeError):
                    getattr(errors, name)()

    def test_they_are_raised_and_caught(self):
        for name, attributes in ATTRIBUTES.items():
            for caught in (getattr(errors, name), errors.BehindError, ValueError):
                with self.assertRaises(caught):
                    raise getattr(errors, name)(*[1 for _ in attributes])


if __name__ == "__main__":
    unittest.main()
