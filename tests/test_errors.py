import unittest

from bitebar.errors import BiteError, NoBar, NoBite, NoNote, NoTable


class Classes(unittest.TestCase):
    def test_any_refusal_stands_straight_under_value_error(self):
        self.assertEqual(BiteError.__bases__, (ValueError,))

    def test_each_refusal_stands_straight_under_bite_error(self):
        for refusal in (NoBar, NoBite, NoTable, NoNote):
            with self.subTest(refusal=refusal):
                self.assertEqual(refusal.__bases__, (BiteError,))

    def test_the_refusals_bear_their_names(self):
        names = [refusal.__name__ for refusal in (BiteError, NoBar, NoBite, NoTable, NoNote)]
        self.assertEqual(names, ["BiteError", "NoBar", "NoBite", "NoTable", "NoNote"])


if __name__ == "__main__":
    unittest.main()
