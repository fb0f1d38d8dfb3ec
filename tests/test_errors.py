"""Point 5: the errors, their bases and their fields."""

import unittest

from tests.slow import ODD_VALUES
from turnedapart import errors

PLAIN = ("NoLot", "NoStanding", "NoThing", "NoThings", "NoOrder", "NoArrow", "NoHands", "NoNumber", "NoTies",
         "NotSpined", "NoSeen", "NoFit", "NothingDone", "NoCrew", "NotNow", "NoHand", "Full", "Clash", "Tied",
         "NoText")
FIELDS = {"BadHome": "part", "NotBare": "way", "BadCrews": "index", "Busy": "who", "Closes": "who",
          "TooMany": "most"}


class Errors(unittest.TestCase):
    def test_the_base_of_all(self):
        self.assertEqual(errors.TurnError.__bases__, (ValueError,))

    def test_each_stands_directly_under_it(self):
        for name in PLAIN + tuple(FIELDS):
            self.assertEqual(getattr(errors, name).__bases__, (errors.TurnError,), name)

    def test_there_are_no_others(self):
        own = {name for name, value in vars(errors).items() if isinstance(value, type)}
        self.assertEqual(own, set(PLAIN) | set(FIELDS) | {"TurnError"})

    def test_without_fields(self):
        for name in PLAIN:
            made = getattr(errors, name)()
            self.assertIsInstance(made, ValueError)
            self.assertIsInstance(str(made), str)
            self.assertEqual(vars(made), {})

    def test_fields_are_kept_as_given(self):
        for name, field in FIELDS.items():
            for value in ODD_VALUES:
                made = getattr(errors, name)(value)
                self.assertIs(getattr(made, field), value)
                self.assertEqual(list(vars(made)), [field])

    def test_a_field_is_no_copy(self):
        way = [0]
        made = errors.NotBare(way)
        way.append(1)
        self.assertEqual(made.way, [0, 1])

    def test_a_field_is_wanted(self):
        for name in FIELDS:
            self.assertRaises(TypeError, getattr(errors, name))
            self.assertRaises(TypeError, getattr(errors, name), 1, 2)

    def test_one_is_not_caught_as_another(self):
        for name in PLAIN + tuple(FIELDS):
            for other in PLAIN + tuple(FIELDS):
                under = issubclass(getattr(errors, name), getattr(errors, other))
                self.assertEqual(under, name == other)
