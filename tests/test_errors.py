import unittest

from racewise import errors

NAMES = ["NoRow", "NoWeaving", "NoRace", "NoProgram", "NoMove", "TooGreat", "NoText", "NoWords"]


class Errors(unittest.TestCase):
    def test_race_error_stands_right_under_value_error(self):
        self.assertEqual(errors.RaceError.__bases__, (ValueError,))

    def test_each_other_stands_under_race_error(self):
        for name in NAMES:
            self.assertTrue(issubclass(getattr(errors, name), errors.RaceError), name)

    def test_none_stands_under_another(self):
        for one in NAMES:
            for other in NAMES:
                if one != other:
                    self.assertFalse(issubclass(getattr(errors, one), getattr(errors, other)), (one, other))

    def test_each_bears_its_name(self):
        for name in NAMES + ["RaceError"]:
            self.assertEqual(getattr(errors, name).__name__, name)


if __name__ == "__main__":
    unittest.main()
