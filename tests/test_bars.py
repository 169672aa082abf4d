import inspect
import unittest

from bitebar.bars import bites, bitten, turned
from bitebar.errors import NoBar, NoBite
from tests.samples import FAR, NO_BARS, all_bars, bar_of, pieces_of

FULL = [5, 5, 5, 5, 5]


class Interface(unittest.TestCase):
    def test_the_arguments_bear_their_names(self):
        for function, names in ((bites, ["bar"]), (bitten, ["bar", "row", "column"]), (turned, ["bar"])):
            with self.subTest(function=function.__name__):
                self.assertEqual(list(inspect.signature(function).parameters), names)

    def test_arguments_may_be_handed_in_by_name(self):
        self.assertEqual(bites(bar=[2]), [(0, 1)])
        self.assertEqual(bitten(bar=[3, 2], row=1, column=1), [3, 1])
        self.assertEqual(turned(bar=[2]), [1, 1])


class WhatABarIs(unittest.TestCase):
    def test_each_of_the_251_bars_is_taken(self):
        self.assertEqual(len(all_bars()), 251)
        for bar in all_bars():
            with self.subTest(bar=bar):
                bites(bar)
                turned(bar)
                if bar != [1]:
                    bitten(bar, *pieces_of(bar)[-1])

    def test_bites_refuses_another_list(self):
        for rows in NO_BARS:
            with self.subTest(rows=rows), self.assertRaises(NoBar):
                bites(rows)

    def test_bitten_refuses_another_list_whatever_the_place_is(self):
        places = ((0, 0), (0, 1), (1, 0), (1, 1), (9, 9), (-1, 0), (0, -1), (FAR, -FAR))
        for rows in NO_BARS:
            for row, column in places:
                with self.subTest(rows=rows, row=row, column=column), self.assertRaises(NoBar):
                    bitten(rows, row, column)

    def test_turned_refuses_another_list(self):
        for rows in NO_BARS:
            with self.subTest(rows=rows), self.assertRaises(NoBar):
                turned(rows)


class Bites(unittest.TestCase):
    def test_ordinary_bars(self):
        self.assertEqual(bites([3]), [(0, 1), (0, 2)])
        self.assertEqual(bites([1, 1, 1]), [(1, 0), (2, 0)])
        self.assertEqual(bites([3, 1]), [(0, 1), (0, 2), (1, 0)])
        self.assertEqual(bites([4, 3, 1]), [(0, 1), (0, 2), (0, 3), (1, 0), (1, 1), (1, 2), (2, 0)])

    def test_the_bad_piece_alone_has_no_bite(self):
        self.assertEqual(bites([1]), [])

    def test_the_full_bar(self):
        places = bites(FULL)
        self.assertEqual(len(places), 24)
        self.assertEqual(places[:5], [(0, 1), (0, 2), (0, 3), (0, 4), (1, 0)])
        self.assertEqual(places[-2:], [(4, 3), (4, 4)])

    def test_every_bar_has_its_pieces_but_the_bad_one_by_rows_then_columns(self):
        for bar in all_bars():
            with self.subTest(bar=bar):
                self.assertEqual(bites(bar), sorted(set(pieces_of(bar)) - {(0, 0)}))

    def test_the_kinds_of_what_is_told(self):
        places = bites([3, 2])
        self.assertIs(type(places), list)
        for place in places:
            self.assertIs(type(place), tuple)
            self.assertEqual([type(number) for number in place], [int, int])


class Bitten(unittest.TestCase):
    def test_in_the_first_row(self):
        self.assertEqual(bitten([4], 0, 3), [3])
        self.assertEqual(bitten([4], 0, 1), [1])
        self.assertEqual(bitten([4, 3, 1], 0, 2), [2, 2, 1])
        self.assertEqual(bitten(FULL, 0, 1), [1, 1, 1, 1, 1])

    def test_in_the_first_column_rows_fall_away(self):
        self.assertEqual(bitten([4, 3, 1], 2, 0), [4, 3])
        self.assertEqual(bitten([4, 3, 1], 1, 0), [4])
        self.assertEqual(bitten(FULL, 1, 0), [5])
        self.assertEqual(bitten([1, 1], 1, 0), [1])

    def test_within(self):
        self.assertEqual(bitten([4, 3, 1], 1, 1), [4, 1, 1])
        self.assertEqual(bitten([4, 3, 1], 1, 2), [4, 2, 1])
        self.assertEqual(bitten(FULL, 1, 1), [5, 1, 1, 1, 1])
        self.assertEqual(bitten(FULL, 4, 4), [5, 5, 5, 5, 4])
        self.assertEqual(bitten(FULL, 2, 3), [5, 5, 3, 3, 3])

    def test_each_bite_of_every_bar_takes_the_pieces_no_less_in_row_and_column(self):
        bars = all_bars()
        for bar in bars:
            for row, column in pieces_of(bar)[1:]:
                with self.subTest(bar=bar, row=row, column=column):
                    left = [piece for piece in pieces_of(bar) if piece[0] < row or piece[1] < column]
                    self.assertEqual(bitten(bar, row, column), bar_of(left))
                    self.assertIn(bitten(bar, row, column), bars)

    def test_the_bad_piece_is_never_bitten(self):
        for bar in all_bars():
            with self.subTest(bar=bar), self.assertRaises(NoBite):
                bitten(bar, 0, 0)

    def test_every_place_round_a_bar_is_refused(self):
        for bar in ([1], [4], [1, 1, 1], [4, 3, 1], FULL):
            for row in range(-7, 8):
                for column in range(-7, 8):
                    if (row, column) not in pieces_of(bar):
                        with self.subTest(bar=bar, row=row, column=column), self.assertRaises(NoBite):
                            bitten(bar, row, column)

    def test_places_far_off_are_refused(self):
        # Beyond some thousand digits a number can't be written out as a text any more.
        for far in (FAR, 10 ** 5000):
            for row, column in ((far, 0), (-far, 0), (0, far), (0, -far), (1, far), (far, 1), (far, far), (-far, -far)):
                for bar in ([1], [4, 3, 1], FULL):
                    with self.subTest(bar=bar), self.assertRaises(NoBite):
                        bitten(bar, row, column)

    def test_the_kinds_of_what_is_told(self):
        left = bitten([4, 3, 1], 1, 1)
        self.assertIs(type(left), list)
        self.assertEqual([type(number) for number in left], [int, int, int])


class Turned(unittest.TestCase):
    def test_ordinary_bars(self):
        self.assertEqual(turned([4, 3, 1]), [3, 2, 2, 1])
        self.assertEqual(turned([3, 2, 2, 1]), [4, 3, 1])
        self.assertEqual(turned([5, 1]), [2, 1, 1, 1, 1])
        self.assertEqual(turned([2, 2, 2]), [3, 3])
        self.assertEqual(turned(FULL), FULL)

    def test_one_row_and_one_column(self):
        self.assertEqual(turned([1]), [1])
        self.assertEqual(turned([5]), [1, 1, 1, 1, 1])
        self.assertEqual(turned([1, 1, 1]), [3])

    def test_every_bar_has_its_columns_as_rows(self):
        for bar in all_bars():
            with self.subTest(bar=bar):
                self.assertEqual(turned(bar), bar_of([(column, row) for row, column in pieces_of(bar)]))

    def test_turned_twice_it_is_the_bar(self):
        for bar in all_bars():
            with self.subTest(bar=bar):
                self.assertEqual(turned(turned(bar)), bar)

    def test_a_turned_bite_leaves_what_the_bite_leaves_turned(self):
        for bar in all_bars():
            for row, column in bites(bar):
                with self.subTest(bar=bar, row=row, column=column):
                    self.assertEqual(bitten(turned(bar), column, row), turned(bitten(bar, row, column)))

    def test_the_kinds_of_what_is_told(self):
        self.assertIs(type(turned([3, 1])), list)
        self.assertEqual([type(number) for number in turned([3, 1])], [int, int, int])


def askings(bar):
    """All that can be asked of a bar, each as a function without arguments."""
    asked = [lambda: bites(bar), lambda: turned(bar)]
    for row, column in pieces_of(bar)[1:]:
        asked.append(lambda row=row, column=column: bitten(bar, row, column))
    return asked


class NothingChangedOrKept(unittest.TestCase):
    def test_the_bar_handed_in_stays_as_it_was(self):
        for bar in all_bars():
            was = list(bar)
            for ask in askings(bar):
                told = ask()
                self.assertEqual(bar, was)
                self.assertIsNot(told, bar)
                told.append(7)
                told[0] = 8
                self.assertEqual(bar, was)

    def test_asked_again_the_same_is_told_in_a_list_of_its_own(self):
        for bar in all_bars():
            for ask in askings(bar):
                first = ask()
                kept = list(first)
                first.clear()
                second = ask()
                self.assertEqual(second, kept)
                self.assertIsNot(second, first)

    def test_what_was_told_does_not_hang_on_the_bar(self):
        for bar in all_bars():
            for place in range(len(askings(bar))):
                handed = list(bar)
                told = askings(handed)[place]()
                kept = list(told)
                handed[0] = 9
                handed.append(9)
                self.assertEqual(told, kept)

    def test_a_bar_changed_later_is_asked_as_it_is_then(self):
        bar = [3, 1]
        self.assertEqual(bites(bar), [(0, 1), (0, 2), (1, 0)])
        self.assertEqual(turned(bar), [2, 1, 1])
        self.assertEqual(bitten(bar, 0, 1), [1, 1])
        bar[0] = 2
        self.assertEqual(bites(bar), [(0, 1), (1, 0)])
        self.assertEqual(turned(bar), [2, 1])
        bar[1] = 2
        self.assertEqual(bitten(bar, 1, 1), [2, 1])
        bar[1] = 3
        self.assertRaises(NoBar, bites, bar)
        self.assertRaises(NoBar, bitten, bar, 0, 1)
        self.assertRaises(NoBar, turned, bar)

    def test_a_refused_list_stays_as_it_was(self):
        for rows in NO_BARS:
            handed = list(rows)
            self.assertRaises(NoBar, bites, handed)
            self.assertRaises(NoBar, bitten, handed, 0, 1)
            self.assertRaises(NoBar, turned, handed)
            self.assertEqual(handed, rows)

    def test_a_bar_stays_as_it_was_behind_a_refused_bite(self):
        bar = [4, 3, 1]
        for row, column in ((0, 0), (2, 1), (-1, 0), (FAR, FAR)):
            self.assertRaises(NoBite, bitten, bar, row, column)
            self.assertEqual(bar, [4, 3, 1])


if __name__ == "__main__":
    unittest.main()
