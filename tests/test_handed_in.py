import unittest
from copy import deepcopy

from bitebar.bars import bites, bitten, turned
from bitebar.errors import BiteError
from bitebar.notes import read, shown
from bitebar.tables import moved, together, winning, wins
from bitebar.worths import hook_worth, worth
from tests.samples import (
    FAR, NO_BARS, all_bars, bites_of_table, lists_of, pieces_of, some_tables, tables_too_long, tables_with_no_bar,
)


def asked_of_bars():
    """All that can be asked of bars: a function, and what is handed in."""
    asked = []
    for bar in all_bars()[::3]:
        for function in (bites, turned, worth, hook_worth):
            asked.append((function, [bar]))
        asked.extend((bitten, [bar, row, column]) for row, column in pieces_of(bar)[1:])
    return asked


def asked_of_tables():
    asked = []
    same = [3, 2]
    # One list may lie on the table at several places.
    for table in some_tables()[::5] + [[same, same], [same, same, same], [[2], same, same]]:
        for function in (together, wins, winning, shown):
            asked.append((function, [table]))
        asked.extend((moved, [table, *bite]) for bite in bites_of_table(table))
    return asked


def asked_of_texts():
    return [(read, [text]) for text in ("", "1", "431 2", "2 2", "1 1 1", "21 21 21", "54321 11111 5")]


def asked_and_told():
    # Copies, so that each asking may spoil what it hands in.
    return [(function, deepcopy(handed)) for function, handed in asked_of_bars() + asked_of_tables() + asked_of_texts()]


def asked_and_refused():
    asked = []
    for rows in NO_BARS:
        asked.extend((function, [rows]) for function in (bites, turned, worth, hook_worth))
        asked.append((bitten, [rows, 0, 1]))
    for table in tables_too_long() + tables_with_no_bar():
        asked.extend((function, [table]) for function in (together, wins, winning, shown))
        asked.append((moved, [table, 0, 0, 1]))
    for bite in ((0, 0, 0), (0, 2, 1), (1, 0, 2), (2, 0, 1), (-1, 0, 1), (FAR, 0, 1), (0, -1, 0), (0, 0, FAR)):
        asked.append((moved, [[[4, 3, 1], [2]], *bite]))
    return asked


def spoil(value):
    """Changes all lists of a value, those within first."""
    for found in lists_of(value):
        found.append(7)
        found[0] = 9


class NothingChangedOrKept(unittest.TestCase):
    def test_what_is_handed_in_stays_as_it_was(self):
        for function, handed in asked_and_told():
            with self.subTest(function=function.__name__, handed=deepcopy(handed)):
                was = deepcopy(handed)
                function(*handed)
                self.assertEqual(handed, was)

    def test_no_list_told_is_one_handed_in_and_no_two_are_one(self):
        for function, handed in asked_and_told():
            with self.subTest(function=function.__name__, handed=deepcopy(handed)):
                told = lists_of(function(*handed))
                marks = {id(found) for found in told}
                self.assertEqual(len(marks), len(told))
                self.assertFalse(marks & {id(found) for found in lists_of(handed)})

    def test_what_is_told_again_is_in_lists_of_its_own(self):
        for function, handed in asked_and_told():
            with self.subTest(function=function.__name__, handed=deepcopy(handed)):
                first = function(*handed)
                second = function(*handed)
                self.assertFalse({id(found) for found in lists_of(first)} & {id(found) for found in lists_of(second)})

    def test_what_was_told_may_be_changed(self):
        for function, handed in asked_and_told():
            with self.subTest(function=function.__name__, handed=deepcopy(handed)):
                was = deepcopy(handed)
                told = function(*handed)
                kept = deepcopy(told)
                spoil(told)
                self.assertEqual(handed, was)
                self.assertEqual(function(*handed), kept)

    def test_what_was_handed_in_may_be_changed_later(self):
        for function, handed in asked_and_told():
            with self.subTest(function=function.__name__, handed=deepcopy(handed)):
                was = deepcopy(handed)
                told = function(*handed)
                kept = deepcopy(told)
                spoil(handed[0])
                self.assertEqual(told, kept)
                self.assertEqual(function(*was), kept)

    def test_what_is_refused_stays_as_it_was(self):
        for function, handed in asked_and_refused():
            was = deepcopy(handed)
            with self.subTest(function=function.__name__):
                self.assertRaises(BiteError, function, *handed)
                self.assertEqual(handed, was)

    def test_a_table_changed_later_is_asked_as_it_is_then(self):
        table = [[3], [2]]
        self.assertEqual(together(table), 3)
        self.assertEqual(winning(table), [(0, 0, 2)])
        table[0][0] = 2
        self.assertEqual(together(table), 0)
        self.assertIs(wins(table), False)
        self.assertEqual(winning(table), [])
        table[1].append(2)
        self.assertEqual(shown(table), "2 22")
        self.assertEqual(together(table), 3)
        table.append([2, 1])
        self.assertEqual(moved(table, 2, 1, 0), [[2], [2, 2], [2]])

    def test_a_bar_changed_later_is_asked_as_it_is_then(self):
        bar = [3]
        self.assertEqual((worth(bar), hook_worth(bar)), (2, 2))
        bar.append(1)
        self.assertEqual((worth(bar), hook_worth(bar)), (3, 3))
        bar[1] = 2
        self.assertEqual((worth(bar), hook_worth(bar)), (0, None))


if __name__ == "__main__":
    unittest.main()
