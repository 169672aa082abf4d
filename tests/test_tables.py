import inspect
import unittest
from functools import lru_cache
from itertools import combinations_with_replacement

from bitebar.errors import NoBar, NoBite, NoTable
from bitebar.tables import moved, together, winning, wins
from tests.samples import (
    FAR, all_bars, bites_of_table, reckoned, reckoned_table, some_tables, table_behind, tables_too_long,
    tables_with_no_bar,
)

FULL = [5, 5, 5, 5, 5]

NUMBERS_AND_PLACES = (
    (0, 0, 1), (0, 0, 0), (1, 1, 0), (2, 1, 1), (3, 0, 1), (4, 0, 1), (-1, 0, 1), (0, -1, 0), (0, 0, -1), (0, 9, 9),
    (FAR, 0, 1), (-FAR, 0, 1), (0, FAR, -FAR), (0, -FAR, FAR), (FAR, FAR, FAR),
)


class Interface(unittest.TestCase):
    def test_the_arguments_bear_their_names(self):
        for function in (together, wins, winning):
            with self.subTest(function=function.__name__):
                self.assertEqual(list(inspect.signature(function).parameters), ["table"])
        self.assertEqual(list(inspect.signature(moved).parameters), ["table", "number", "row", "column"])

    def test_arguments_may_be_handed_in_by_name(self):
        self.assertEqual(together(table=[[2]]), 1)
        self.assertIs(wins(table=[[2]]), True)
        self.assertEqual(winning(table=[[2]]), [(0, 0, 1)])
        self.assertEqual(moved(table=[[3, 2]], number=0, row=1, column=1), [[3, 1]])


class Together(unittest.TestCase):
    def test_the_empty_table(self):
        self.assertEqual(together([]), 0)

    def test_one_bar(self):
        for bar in all_bars():
            with self.subTest(bar=bar):
                self.assertEqual(together([bar]), reckoned(bar))

    def test_rows_are_worth_their_pieces_beside_the_bad_one(self):
        for first in range(5):
            for second in range(5):
                with self.subTest(first=first, second=second):
                    self.assertEqual(together([[first + 1], [second + 1]]), first ^ second)
                for third in range(5):
                    with self.subTest(first=first, second=second, third=third):
                        self.assertEqual(together([[first + 1], [second + 1], [third + 1]]), first ^ second ^ third)

    def test_worths_that_share_figures_of_two(self):
        self.assertEqual(together([[4], [4]]), 0)
        self.assertEqual(together([[4], [3]]), 1)
        self.assertEqual(together([[4], [2]]), 2)
        self.assertEqual(together([[4], [3], [2]]), 0)
        self.assertEqual(together([[4], [4], [4]]), 3)
        self.assertEqual(together([[5], [4], [3]]), 5)

    def test_many_tables(self):
        for table in some_tables():
            with self.subTest(table=table):
                self.assertEqual(together(table), reckoned_table(table))
                self.assertIs(type(together(table)), int)


@lru_cache(maxsize=None)
def can_win(bars):
    """Whether the hand to move can win, by playing every game to its end, without worths."""
    table = [list(rows) for rows in bars]
    behind = [table_behind(table, *bite) for bite in bites_of_table(table)]
    return any(not can_win(tuple(sorted(tuple(bar) for bar in left))) for left in behind)


class Wins(unittest.TestCase):
    def test_ordinary_tables(self):
        for table in ([], [[1]], [[1], [1], [1]], [[2, 1]], [[3], [3]], [[4], [3], [2]], [[2, 1], [3, 2]]):
            with self.subTest(table=table):
                self.assertIs(wins(table), False)
        for table in ([[2]], [[1], [2], [1]], [FULL], [[3], [2]], [[3], [3], [3]], [[2, 2], [2]]):
            with self.subTest(table=table):
                self.assertIs(wins(table), True)

    def test_just_where_the_worth_is_not_nought(self):
        for table in some_tables():
            with self.subTest(table=table):
                self.assertIs(wins(table), reckoned_table(table) != 0)

    def test_just_where_some_bite_wins_every_game(self):
        small = [tuple(bar) for bar in all_bars() if bar[0] <= 3 and len(bar) <= 3]
        for count in range(4):
            for bars in combinations_with_replacement(sorted(small), count):
                with self.subTest(bars=bars):
                    self.assertIs(wins([list(rows) for rows in bars]), can_win(bars))


class Winning(unittest.TestCase):
    def test_ordinary_tables(self):
        self.assertEqual(winning([[2]]), [(0, 0, 1)])
        self.assertEqual(winning([[2, 2]]), [(0, 1, 1)])
        self.assertEqual(winning([[3], [2]]), [(0, 0, 2)])
        self.assertEqual(winning([[2], [3]]), [(1, 0, 2)])
        self.assertEqual(winning([[3], [1], [1, 1, 1, 1]]), [(2, 3, 0)])
        self.assertEqual(winning([[2], [1, 1], [2]]), [(0, 0, 1), (1, 1, 0), (2, 0, 1)])

    def test_none_where_the_worth_is_nought(self):
        for table in ([], [[1]], [[1], [1], [1]], [[2, 1]], [[3], [1, 1, 1]], [[4], [3], [2]], [[3, 2], [5, 4]]):
            with self.subTest(table=table):
                self.assertEqual(winning(table), [])

    def test_each_bite_told_leaves_nought_and_no_other_does(self):
        for table in some_tables():
            with self.subTest(table=table):
                told = [bite for bite in bites_of_table(table) if reckoned_table(table_behind(table, *bite)) == 0]
                self.assertEqual(winning(table), told)
                self.assertEqual(bool(told), wins(table))

    def test_the_program_says_so_of_the_tables_behind(self):
        for table in some_tables()[::7]:
            told = winning(table)
            for bite in bites_of_table(table):
                with self.subTest(table=table, bite=bite):
                    self.assertEqual(together(moved(table, *bite)) == 0, bite in told)

    def test_by_rising_numbers_then_rows_then_columns(self):
        for table in some_tables():
            with self.subTest(table=table):
                self.assertEqual(winning(table), sorted(set(winning(table))))

    def test_the_kinds_of_what_is_told(self):
        told = winning([[2], [1, 1], [2]])
        self.assertIs(type(told), list)
        self.assertIs(type(winning([])), list)
        for bite in told:
            self.assertIs(type(bite), tuple)
            self.assertEqual([type(number) for number in bite], [int, int, int])


class Moved(unittest.TestCase):
    TABLE = [[4, 3, 1], [2], [3, 3, 3]]

    def refused(self, table, number, row, column):
        # Far numbers may be too long to be written out, so no subTest shows them.
        self.assertRaises(NoBite, moved, table, number, row, column)

    def test_a_bite_in_each_bar(self):
        self.assertEqual(moved(self.TABLE, 0, 1, 1), [[4, 1, 1], [2], [3, 3, 3]])
        self.assertEqual(moved(self.TABLE, 1, 0, 1), [[4, 3, 1], [1], [3, 3, 3]])
        self.assertEqual(moved(self.TABLE, 2, 1, 0), [[4, 3, 1], [2], [3]])

    def test_every_bite_of_many_tables(self):
        for table in some_tables():
            for bite in bites_of_table(table):
                with self.subTest(table=table, bite=bite):
                    self.assertEqual(moved(table, *bite), table_behind(table, *bite))

    def test_a_bar_of_bad_pieces_stays_on_the_table(self):
        self.assertEqual(moved([[1], [2], [1]], 1, 0, 1), [[1], [1], [1]])

    def test_the_bad_pieces_are_never_bitten(self):
        for number in range(3):
            self.refused(self.TABLE, number, 0, 0)
            self.refused([[1], [1], [1]], number, 0, 0)

    def test_every_place_round_a_bar_is_refused(self):
        bites = bites_of_table(self.TABLE)
        for number in range(-5, 6):
            for row in range(-6, 7):
                for column in range(-6, 7):
                    if (number, row, column) not in bites:
                        with self.subTest(number=number, row=row, column=column), self.assertRaises(NoBite):
                            moved(self.TABLE, number, row, column)

    def test_places_far_off_are_refused(self):
        for far in (FAR, -FAR, 10 ** 5000, -10 ** 5000):
            for number in range(3):
                for row, column in ((far, 0), (0, far), (far, 1), (1, far), (far, far), (far, -far)):
                    self.refused(self.TABLE, number, row, column)

    def test_there_is_no_bar_of_that_number(self):
        for table in ([], [[2]], [[2], [2]], [[2], [2], [2]]):
            for number in (-1, -2, -3, -4, len(table), len(table) + 1, 3, 4, FAR, -FAR, 10 ** 5000, -10 ** 5000):
                for row, column in ((0, 1), (0, 0), (1, 0), (-1, -1), (FAR, FAR)):
                    self.refused(table, number, row, column)

    def test_the_empty_table_has_no_bar(self):
        for number, row, column in NUMBERS_AND_PLACES:
            self.refused([], number, row, column)

    def test_the_kinds_of_what_is_told(self):
        behind = moved(self.TABLE, 0, 1, 1)
        self.assertIs(type(behind), list)
        for bar in behind:
            self.assertIs(type(bar), list)
            self.assertEqual({type(pieces) for pieces in bar}, {int})


class Refusals(unittest.TestCase):
    def test_a_longer_list_is_no_table(self):
        for table in tables_too_long():
            for ask in (together, wins, winning):
                with self.subTest(table=table, ask=ask.__name__), self.assertRaises(NoTable):
                    ask(table)

    def test_moved_refuses_a_longer_list_whatever_number_and_place_are(self):
        for table in tables_too_long():
            for bite in NUMBERS_AND_PLACES:
                with self.subTest(table=table, bite=bite), self.assertRaises(NoTable):
                    moved(table, *bite)

    def test_a_table_with_what_is_no_bar(self):
        for table in tables_with_no_bar():
            for ask in (together, wins, winning):
                with self.subTest(table=table, ask=ask.__name__), self.assertRaises(NoBar):
                    ask(table)

    def test_moved_refuses_what_is_no_bar_whatever_number_and_place_are(self):
        for table in tables_with_no_bar():
            for bite in NUMBERS_AND_PLACES:
                with self.subTest(table=table, bite=bite), self.assertRaises(NoBar):
                    moved(table, *bite)


def play_all_games(test, table, chosen, seen):
    """The hand to move makes a winning bite, chosen among them; the other one every bite there is."""
    rows = tuple(tuple(bar) for bar in table)
    if rows in seen:
        return
    seen.add(rows)
    told = winning(table)
    test.assertTrue(told, f"the hand that was to win can't make a winning bite: {table}")
    left = moved(table, *told[chosen])
    test.assertIs(wins(left), False)
    for bite in bites_of_table(left):
        play_all_games(test, moved(left, *bite), chosen, seen)


class WholeGames(unittest.TestCase):
    def test_the_hand_with_winning_bites_is_never_the_one_that_can_not_bite(self):
        tables = ([[2]], [FULL], [[5, 4, 3, 2, 1]], [[4, 4, 4], [3, 1]], [[3, 3], [2, 2, 2], [4]], [[2], [2], [3, 3, 3]])
        for table in tables:
            self.assertIs(wins(table), True)
            for chosen in (0, -1):
                with self.subTest(table=table, chosen=chosen):
                    play_all_games(self, table, chosen, set())

    def test_behind_any_bite_the_other_hand_can_win_where_the_first_can_not(self):
        for table in ([[3, 2]], [[5, 1, 1, 1, 1]], [[4, 3, 1], [4, 3, 1]], [[4], [3], [2]]):
            self.assertIs(wins(table), False)
            for bite in bites_of_table(table):
                with self.subTest(table=table, bite=bite):
                    play_all_games(self, moved(table, *bite), 0, set())

    def test_who_can_not_bite_has_lost(self):
        for count in range(4):
            table = [[1] for number in range(count)]
            self.assertEqual(bites_of_table(table), [])
            self.assertIs(wins(table), False)


if __name__ == "__main__":
    unittest.main()
