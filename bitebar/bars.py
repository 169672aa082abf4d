"""Bars of pieces, the bites that take corners off them, and bars turned."""

from bitebar.errors import NoBar, NoBite

MOST_ROWS = 5
MOST_PIECES = 5


def is_bar(rows):
    if len(rows) < 1 or len(rows) > MOST_ROWS:
        return False
    ahead = MOST_PIECES
    for pieces in rows:
        if pieces < 1 or pieces > ahead:
            return False
        ahead = pieces
    return True


def check_bar(bar):
    if not is_bar(bar):
        raise NoBar("a bar is 1 to 5 rows of 1 to 5 pieces, none longer than the one ahead")


def places_of_bites(bar):
    places = []
    for row, pieces in enumerate(bar):
        places.extend([(row, column) for column in range(pieces)])
    # The bad piece stands ahead of all others and is never bitten.
    return places[1:]


def left_behind(bar, row, column):
    cut = [min(pieces, column) for pieces in bar[row:]]
    return bar[:row] + [pieces for pieces in cut if pieces > 0]


def bites(bar):
    check_bar(bar)
    return places_of_bites(bar)


def bitten(bar, row, column):
    # Asking for the bites first lets NoBar come ahead of NoBite, and keeps
    # numbers below nought from being taken as places counted from the end.
    if (row, column) not in bites(bar):
        raise NoBite("a bite is told by a piece of the bar that is not the bad one")
    return left_behind(bar, row, column)


def pieces_in_column(bar, column):
    return len([pieces for pieces in bar if pieces > column])


def turned(bar):
    check_bar(bar)
    return [pieces_in_column(bar, column) for column in range(bar[0])]
