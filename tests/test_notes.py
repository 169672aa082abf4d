import inspect
import re
import unittest
from itertools import product

from bitebar.errors import NoBar, NoNote, NoTable
from bitebar.notes import read, shown
from tests.samples import some_tables, tables_too_long, tables_with_no_bar

# All signs that a text may have.
SIGNS = "\t\n" + "".join(chr(number) for number in range(ord(" "), ord("~") + 1) if chr(number) != "%")

NOTES = (
    ("", []),
    ("1", [[1]]),
    ("55555", [[5, 5, 5, 5, 5]]),
    ("431 2", [[4, 3, 1], [2]]),
    ("2 431", [[2], [4, 3, 1]]),
    ("1 1 1", [[1], [1], [1]]),
    ("54321 11111 5", [[5, 4, 3, 2, 1], [1, 1, 1, 1, 1], [5]]),
)

NO_NOTES = (
    " ", "  ", "   ", " 431 2", "431 2 ", "431  2", " 2", "2 ", "1  1 1", "1 1  1", "1 1 1 ", " 1 1 1",
    "\t", "\t431 2", "431\t2", "431 2\t", "431 \t2", "43\t1 2",
    "\n", "\n431 2", "431\n2", "431 2\n", "431 2\n\n", "431 \n2", "2\n", "\n2",
    "a", "431 b", "4a1 2", "x431 2", "431 2x", "~", "431,2", "431;2", "431-2", "-2", "+2", "431 -2", "4.1", "4_1",
    "[4, 3, 1]", "[[2]]", "()", "'2'", "\"2\"", "\\", "#", "1e1", "0x1", "II", "two",
    "0", "00", "430", "431 0", "01", "0 2", "10", "101", "431 20", "00000",
    "6", "66", "61", "431 6", "7", "8", "9", "99999", "98765", "431 9",
    "111111", "555555", "543211", "431 111111", "111111 2", "1" * 1000, "1" * 5000, "5" * 100000,
    "12", "34", "121", "5545", "432 12", "12 431", "431 2 12", "12345",
    "1 1 1 1", "431 2 2 2", "5 5 5 5 5", "1 1 1 1 ", "1 1 1 x", "1 1 1 6", " ".join(["1"] * 1000),
)


def is_note(text):
    """Whether a text is a table's, told without the program."""
    if text == "":
        return True
    bar = "(?=[1-5]{1,5}(?: |\\Z))5*4*3*2*1*"
    return re.fullmatch(f"{bar}(?: {bar}){{0,2}}", text) is not None


class Interface(unittest.TestCase):
    def test_the_arguments_bear_their_names(self):
        self.assertEqual(list(inspect.signature(shown).parameters), ["table"])
        self.assertEqual(list(inspect.signature(read).parameters), ["text"])

    def test_arguments_may_be_handed_in_by_name(self):
        self.assertEqual(shown(table=[[4, 3, 1], [2]]), "431 2")
        self.assertEqual(read(text="431 2"), [[4, 3, 1], [2]])


class Shown(unittest.TestCase):
    def test_ordinary_tables(self):
        for text, table in NOTES:
            with self.subTest(text=text):
                self.assertEqual(shown(table), text)
                self.assertIs(type(shown(table)), str)

    def test_a_longer_list_is_no_table(self):
        for table in tables_too_long():
            with self.subTest(table=table), self.assertRaises(NoTable):
                shown(table)

    def test_a_table_with_what_is_no_bar(self):
        for table in tables_with_no_bar():
            with self.subTest(table=table), self.assertRaises(NoBar):
                shown(table)


class Read(unittest.TestCase):
    def test_ordinary_texts(self):
        for text, table in NOTES:
            with self.subTest(text=text):
                self.assertEqual(read(text), table)

    def test_what_was_shown_is_read_as_the_table(self):
        for table in some_tables():
            with self.subTest(table=table):
                self.assertEqual(read(shown(table)), table)

    def test_the_kinds_of_what_is_told(self):
        self.assertIs(type(read("")), list)
        table = read("431 2")
        self.assertIs(type(table), list)
        for bar in table:
            self.assertIs(type(bar), list)
            self.assertEqual({type(pieces) for pieces in bar}, {int})

    def test_texts_of_another_make_are_refused(self):
        for text in NO_NOTES:
            with self.subTest(text=text[:40]), self.assertRaises(NoNote):
                read(text)

    def test_every_sign_at_every_place(self):
        for note in ("", "2", "431 2", "11111", "5 5 5"):
            for place in range(len(note) + 1):
                for sign in SIGNS:
                    self.told_or_refused(note[:place] + sign + note[place:])
                    self.told_or_refused(note[:place] + sign + note[place + 1:])

    def test_all_short_texts_of_some_signs(self):
        for length in range(6):
            for signs in product("0156 \n", repeat=length):
                self.told_or_refused("".join(signs))

    def told_or_refused(self, text):
        with self.subTest(text=text):
            if is_note(text):
                self.assertEqual(read(text), [[int(sign) for sign in word] for word in text.split()])
                self.assertEqual(shown(read(text)), text)
            else:
                self.assertRaises(NoNote, read, text)


if __name__ == "__main__":
    unittest.main()
