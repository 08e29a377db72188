import unittest

from seektree import errors


class Errors(unittest.TestCase):
    def test_any_refusal_is_a_value_error(self):
        self.assertEqual(errors.SeekError.__bases__, (ValueError,))

    def test_each_stands_straight_under_seek_error(self):
        for name in ("NoKeys", "NoWeights", "NoTree", "NoKey", "AtRoot", "BadText"):
            with self.subTest(name):
                self.assertEqual(getattr(errors, name).__bases__, (errors.SeekError,))


if __name__ == "__main__":
    unittest.main()
