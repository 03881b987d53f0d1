"""Section 16, and what section 2 says of errors."""

import unittest

from rangehunt import errors
from rangehunt.errors import MeterError
from tests.tools import Case, any_values

NAMES = (
    "BadRatio", "Short", "BadMany", "BadBench", "NoMeter", "NoLoad", "LastMeter", "BadSpread", "BadSetting",
    "BadStep", "BadSteps", "TooMany", "BadLog", "NoFit", "Unlike", "BadOffers", "BadHopes", "NotNow", "Hunting",
    "BadSource", "NothingToUndo", "NothingToRedo", "NoTrial", "BadJournal", "BadLine",
)


class Errors(Case):

    def test_meter_error_derives_from_value_error(self):
        self.assertEqual(MeterError.__bases__, (ValueError,))

    def test_each_is_directly_below_meter_error(self):
        for name in NAMES:
            with self.subTest(name=name):
                self.assertEqual(getattr(errors, name).__bases__, (MeterError,))

    def test_each_is_a_class_of_its_own(self):
        found = [getattr(errors, name) for name in NAMES]
        self.assertEqual(len(set(found)), 25)
        for error, name in zip(found, NAMES):
            with self.subTest(name=name):
                self.assertEqual(error.__name__, name)
                self.assertEqual([other for other in found if issubclass(error, other)], [error])

    def test_value_is_the_only_argument(self):
        for name in ("MeterError",) + NAMES:
            error = getattr(errors, name)
            for value in any_values():
                with self.subTest(name=name, value=value):
                    self.assertIs(error(value).value, value)

    def test_value_is_there_when_it_is_caught(self):
        for name in NAMES:
            error = getattr(errors, name)
            for kept in (error, MeterError, ValueError):
                value = [name]
                try:
                    raise error(value)
                except kept as caught:
                    self.assertIs(caught.value, value)
                    self.assertIs(type(caught), error)

    def test_each_keeps_its_own_value(self):
        one, other = errors.BadRatio(1), errors.BadRatio(True)
        self.assert_same((one.value, other.value), (1, True))


if __name__ == "__main__":
    unittest.main()
