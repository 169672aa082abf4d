"""Tables of bars: their worth, who wins, and the bites made on them."""

from bitebar.bars import bitten, check_bar, left_behind, places_of_bites
from bitebar.errors import NoBite, NoTable
from bitebar.worths import added, worth_by

MOST_BARS = 3


def check_table(table):
    # The length comes first, since NoTable goes ahead of NoBar.
    if len(table) > MOST_BARS:
        raise NoTable("a table is a list of nought to 3 bars")
    for bar in table:
        check_bar(bar)


def together(table):
    check_table(table)
    known = {}
    return added([worth_by(bar, known) for bar in table])


def wins(table):
    return together(table) != 0


def bites_to_worth(bar, wanted, known):
    """The places of the bites that leave a bar of the worth wanted."""
    places = places_of_bites(bar)
    return [(row, column) for row, column in places if worth_by(left_behind(bar, row, column), known) == wanted]


def winning(table):
    check_table(table)
    known = {}
    worths = [worth_by(bar, known) for bar in table]
    found = []
    for number, bar in enumerate(table):
        # The table comes to nought just where this bar's worth equals that of all the others together.
        others = added(worths[:number] + worths[number + 1:])
        found.extend([(number, row, column) for row, column in bites_to_worth(bar, others, known)])
    return found


def moved(table, number, row, column):
    check_table(table)
    # Numbers below nought must not be taken as bars counted from the end.
    if number < 0 or number >= len(table):
        raise NoBite("there is no bar of that number on the table")
    behind = [list(bar) for bar in table]
    behind[number] = bitten(table[number], row, column)
    return behind
