"""Bars, and lists that are none, for the tests."""

from itertools import combinations_with_replacement

FAR = 10 ** 20

NO_BARS = (
    [],
    [1, 1, 1, 1, 1, 1],
    [5, 5, 5, 5, 5, 5],
    [5, 4, 3, 2, 1, 0],
    [0],
    [3, 0],
    [3, 0, 1],
    [2, 1, 0, 0],
    [6],
    [6, 5],
    [6, 6, 6, 6, 6],
    [-1],
    [3, -1],
    [3, 2, -2],
    [FAR],
    [FAR, 1],
    [-FAR],
    [5, -FAR],
    [1, 2],
    [1, FAR],
    [3, 2, 3],
    [4, 4, 1, 2],
    [5, 4, 3, 2, 3],
    [1, 2, 3, 4, 5],
    [1] * 1000,
)


def all_bars():
    bars = []
    for rows in range(1, 6):
        bars.extend(list(bar) for bar in combinations_with_replacement(range(5, 0, -1), rows))
    return bars


def pieces_of(bar):
    return [(row, column) for row in range(len(bar)) for column in range(bar[row])]


def bar_of(pieces):
    """The bar that has just these pieces."""
    rows = [row for row, column in pieces]
    return [rows.count(row) for row in sorted(set(rows))]
