import unittest

from thinways import errors

NAMES = (
    "NoWeb", "NoTimes", "NoOrder", "NoPlain", "NoShare", "NoLevels", "NoFalls", "NoTie", "NoLength", "NoText",
    "NoLine", "NoBack", "TooMany",
)


class ErrorsTest(unittest.TestCase):
    def test_all_thirteen_stand_straight_under_thin_error(self):
        self.assertEqual(errors.ThinError.__bases__, (ValueError,))
        for name in NAMES:
            self.assertEqual(getattr(errors, name).__bases__, (errors.ThinError,), name)

    def test_none_stands_under_another(self):
        for one in NAMES:
            for other in NAMES:
                below = issubclass(getattr(errors, one), getattr(errors, other))
                self.assertEqual(below, one == other, (one, other))

    def test_each_is_made_of_a_text(self):
        for name in NAMES:
            with self.assertRaises(errors.ThinError):
                raise getattr(errors, name)("words")


if __name__ == "__main__":
    unittest.main()
