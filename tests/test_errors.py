"""[2], [24]: the error classes."""

import inspect
import unittest

import lockstold.errors
from helper import ERRORS

SAMPLES = {"number": (0, 7, -1), "word": ("sold", ""), "line": (0, 12)}


class ErrorsTest(unittest.TestCase):

    def test_just_these_classes_are_there(self):
        found = {name for name, own in vars(lockstold.errors).items() if inspect.isclass(own)}
        self.assertEqual(found, set(ERRORS))

    def test_each_has_its_one_direct_base_class(self):
        for name, (base, _) in ERRORS.items():
            with self.subTest(name):
                self.assertEqual(getattr(lockstold.errors, name).__bases__, (base,))

    def test_each_is_defined_in_errors(self):
        for name in ERRORS:
            self.assertEqual(getattr(lockstold.errors, name).__module__, "lockstold.errors")

    def test_values_are_kept_under_their_names(self):
        for name, (_, values) in ERRORS.items():
            for value in values:
                for sample in SAMPLES[value]:
                    with self.subTest(name, sample=sample):
                        kind = getattr(lockstold.errors, name)
                        self.assertEqual(getattr(kind(sample), value), sample)
                        self.assertEqual(getattr(kind(**{value: sample}), value), sample)
                        self.assertEqual(vars(kind(sample)), {value: sample})

    def test_those_without_values_take_none(self):
        for name, (_, values) in ERRORS.items():
            if not values:
                self.assertEqual(vars(getattr(lockstold.errors, name)()), {})

    def test_each_can_be_raised_and_caught_by_its_base_alone(self):
        for name, (base, values) in ERRORS.items():
            kind = getattr(lockstold.errors, name)
            with self.assertRaises(base):
                raise kind(*[SAMPLES[value][0] for value in values])
            for other in ERRORS:
                if other != name:
                    self.assertFalse(issubclass(kind, getattr(lockstold.errors, other)))


if __name__ == "__main__":
    unittest.main()
