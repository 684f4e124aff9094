import unittest

from spanrow import errors

NAMES = (
    "BadWeb", "BadSet", "Parted", "NoTree", "NoTie", "NoSuch", "NotSquare",
    "Singular", "BadRow", "BadTurns", "NotFlat", "BadText", "NothingBack",
)


class Errors(unittest.TestCase):

    def test_web_error_stands_under_value_error(self):
        self.assertEqual(errors.WebError.__bases__, (ValueError,))

    def test_there_are_thirteen(self):
        self.assertEqual(len(set(NAMES)), 13)
        under = [name for name, value in vars(errors).items()
                 if isinstance(value, type) and issubclass(value, errors.WebError)]
        self.assertEqual(sorted(under), sorted(NAMES + ("WebError",)))

    def test_each_stands_straight_under_web_error(self):
        for name in NAMES:
            with self.subTest(name=name):
                self.assertEqual(getattr(errors, name).__bases__, (errors.WebError,))
                self.assertEqual(getattr(errors, name).__name__, name)

    def test_none_stands_under_another_one(self):
        for name in NAMES:
            for other in NAMES:
                if name != other:
                    self.assertFalse(issubclass(getattr(errors, name), getattr(errors, other)), (name, other))

    def test_each_can_be_raised_and_taken(self):
        for name in NAMES:
            with self.assertRaises(errors.WebError):
                raise getattr(errors, name)("words")


if __name__ == "__main__":
    unittest.main()
