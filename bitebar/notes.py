"""Tables written as texts, and read from them."""

from bitebar.bars import is_bar
from bitebar.errors import NoNote
from bitebar.tables import MOST_BARS, check_table

FIGURES = "12345"


def shown_bar(bar):
    return "".join([str(pieces) for pieces in bar])


def shown(table):
    check_table(table)
    return " ".join([shown_bar(bar) for bar in table])


def read_bar(word):
    if not all([sign in FIGURES for sign in word]):
        raise NoNote("a bar is written with the figures 1 to 5 alone")
    bar = [int(sign) for sign in word]
    if not is_bar(bar):
        raise NoNote("a bar is written with 1 to 5 figures, none greater than the one ahead")
    return bar


def read(text):
    # Split, the empty text would be one bar without rows, not a table without bars.
    if text == "":
        return []
    words = text.split(" ")
    if len(words) > MOST_BARS:
        raise NoNote("a table has at most 3 bars")
    return [read_bar(word) for word in words]
