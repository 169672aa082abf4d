import inspect
import unittest

from bitebar.bars import bitten, turned
from bitebar.errors import NoBar
from bitebar.worths import hook_worth, worth
from tests.samples import NO_BARS, added_without_carrying, all_bars, reckoned


def is_hook(bar):
    return bar == [bar[0]] + [1] * (len(bar) - 1)


class Interface(unittest.TestCase):
    def test_the_arguments_bear_their_names(self):
        for function in (worth, hook_worth):
            with self.subTest(function=function.__name__):
                self.assertEqual(list(inspect.signature(function).parameters), ["bar"])

    def test_arguments_may_be_handed_in_by_name(self):
        self.assertEqual(worth(bar=[2]), 1)
        self.assertEqual(hook_worth(bar=[2]), 1)


class Worth(unittest.TestCase):
    def test_small_bars(self):
        worths = (([1], 0), ([2], 1), ([1, 1], 1), ([3], 2), ([2, 1], 0), ([2, 2], 2), ([3, 1], 3), ([3, 2], 0))
        for bar, number in worths:
            with self.subTest(bar=bar):
                self.assertEqual(worth(bar), number)

    def test_every_bar_has_the_least_number_that_no_bar_behind_a_bite_has(self):
        for bar in all_bars():
            with self.subTest(bar=bar):
                self.assertEqual(worth(bar), reckoned(bar))

    def test_a_bar_turned_has_the_same_worth(self):
        for bar in all_bars():
            with self.subTest(bar=bar):
                self.assertEqual(worth(turned(bar)), worth(bar))

    def test_it_is_a_whole_number(self):
        for bar in all_bars():
            with self.subTest(bar=bar):
                self.assertIs(type(worth(bar)), int)

    def test_another_list_is_refused(self):
        for rows in NO_BARS:
            with self.subTest(rows=rows), self.assertRaises(NoBar):
                worth(rows)


class HookWorth(unittest.TestCase):
    def test_ordinary_hooks(self):
        for bar, number in (([4, 1, 1], 1), ([3, 1], 3), ([5, 1, 1], 6), ([3, 1, 1], 0), ([5, 1, 1, 1, 1], 0)):
            with self.subTest(bar=bar):
                self.assertEqual(hook_worth(bar), number)

    def test_every_hook_has_the_worth_of_its_arms(self):
        for pieces in range(1, 6):
            for rows in range(1, 6):
                bar = [pieces] + [1] * (rows - 1)
                with self.subTest(bar=bar):
                    self.assertEqual(hook_worth(bar), added_without_carrying([pieces - 1, rows - 1]))
                    self.assertEqual(hook_worth(bar), worth(bar))
                    self.assertIs(type(hook_worth(bar)), int)

    def test_a_single_row_is_a_hook(self):
        for pieces in range(1, 6):
            with self.subTest(pieces=pieces):
                self.assertEqual(hook_worth([pieces]), pieces - 1)

    def test_a_single_column_is_a_hook(self):
        for rows in range(1, 6):
            with self.subTest(rows=rows):
                self.assertEqual(hook_worth([1] * rows), rows - 1)

    def test_every_other_bar_is_no_hook(self):
        others = [bar for bar in all_bars() if not is_hook(bar)]
        self.assertEqual(len(others), 251 - 25)
        for bar in others:
            with self.subTest(bar=bar):
                self.assertIsNone(hook_worth(bar))

    def test_another_list_is_refused(self):
        for rows in NO_BARS + ([6, 1, 1], [3, 1, 1, 1, 1, 1], [0, 1], [3, 1, 0]):
            with self.subTest(rows=rows), self.assertRaises(NoBar):
                hook_worth(rows)


class Rules(unittest.TestCase):
    def test_a_bar_of_one_row(self):
        for pieces in range(1, 6):
            with self.subTest(pieces=pieces):
                self.assertEqual(worth([pieces]) == 0, pieces == 1)

    def test_a_bar_of_two_rows(self):
        for first in range(1, 6):
            for second in range(1, first + 1):
                with self.subTest(first=first, second=second):
                    self.assertEqual(worth([first, second]) == 0, first == second + 1)

    def test_a_full_bar_of_more_than_one_piece_is_above_nought(self):
        for rows in range(1, 6):
            for pieces in range(1, 6):
                if rows * pieces > 1:
                    with self.subTest(rows=rows, pieces=pieces):
                        self.assertGreater(worth([pieces] * rows), 0)

    def test_a_full_bar_with_as_many_rows_as_pieces_in_a_row(self):
        for side in range(2, 6):
            with self.subTest(side=side):
                self.assertEqual(worth(bitten([side] * side, 1, 1)), 0)


if __name__ == "__main__":
    unittest.main()
