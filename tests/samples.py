"""Bars and tables, lists that are none, and worths reckoned without the program, for the tests."""

from functools import lru_cache
from itertools import combinations_with_replacement, product

FAR = 10 ** 20

NO_BARS = (
    [],
    [1, 1, 1, 1, 1, 1],
    [5, 5, 5, 5, 5, 5],
    [5, 4, 3, 2, 1, 0],
    [0],
    [3, 0],
    [3, 0, 1],
    [2, 1, 0, 0],
    [6],
    [6, 5],
    [6, 6, 6, 6, 6],
    [-1],
    [3, -1],
    [3, 2, -2],
    [FAR],
    [FAR, 1],
    [-FAR],
    [5, -FAR],
    [1, 2],
    [1, FAR],
    [3, 2, 3],
    [4, 4, 1, 2],
    [5, 4, 3, 2, 3],
    [1, 2, 3, 4, 5],
    [1] * 1000,
)


def all_bars():
    bars = []
    for rows in range(1, 6):
        bars.extend(list(bar) for bar in combinations_with_replacement(range(5, 0, -1), rows))
    return bars


def pieces_of(bar):
    return [(row, column) for row in range(len(bar)) for column in range(bar[row])]


def bar_of(pieces):
    """The bar that has just these pieces."""
    rows = [row for row, column in pieces]
    return [rows.count(row) for row in sorted(set(rows))]


@lru_cache(maxsize=None)
def reckoned_rows(rows):
    pieces = pieces_of(rows)
    behind = set()
    for row, column in pieces[1:]:
        left = [piece for piece in pieces if piece[0] < row or piece[1] < column]
        behind.add(reckoned_rows(tuple(bar_of(left))))
    return min(number for number in range(len(behind) + 1) if number not in behind)


def reckoned(bar):
    """The worth of a bar, reckoned from its pieces without the program."""
    return reckoned_rows(tuple(bar))


def added_without_carrying(numbers):
    """The sum of the powers of two that an odd count of the numbers has."""
    powers = [2 ** place for place in range(10)]
    return sum(power for power in powers if sum(number // power % 2 for number in numbers) % 2 == 1)


def reckoned_table(table):
    return added_without_carrying([reckoned(bar) for bar in table])


def bites_of_table(table):
    """All bites, by the numbers of the bars, then rows, then columns."""
    return [(number, row, column) for number, bar in enumerate(table) for row, column in pieces_of(bar)[1:]]


def table_behind(table, number, row, column):
    """The table behind a bite, told from the pieces without the program."""
    left = [piece for piece in pieces_of(table[number]) if piece[0] < row or piece[1] < column]
    return [bar_of(left) if place == number else list(bar) for place, bar in enumerate(table)]


SOME_BARS = (
    [1], [2], [5], [1, 1], [2, 1], [2, 2], [3, 2], [5, 4], [3, 1, 1], [4, 3, 1], [3, 3, 3], [2, 2, 2, 2],
    [5, 1, 1, 1, 1], [5, 4, 3, 2, 1], [5, 5, 5, 5, 5],
)


def some_tables():
    """The empty table, each bar by itself, and tables of two bars and three."""
    tables = [[]]
    tables.extend([bar] for bar in all_bars())
    tables.extend([list(first), list(second)] for first, second in product(SOME_BARS, repeat=2))
    tables.extend([list(bar) for bar in bars] for bars in product(SOME_BARS[::2], repeat=3))
    return tables


def lists_with_no_bar(count):
    """Lists of so many bars, but for one at each place that is none."""
    lists = []
    for place in range(count):
        for rows in NO_BARS:
            bars = [[4, 3, 1] for number in range(count)]
            bars[place] = list(rows)
            lists.append(bars)
    return lists


def tables_with_no_bar():
    """Lists short enough for a table, with what is no bar."""
    without_any_bar = [list(rows) for rows in NO_BARS[:3]]
    return lists_with_no_bar(1) + lists_with_no_bar(2) + lists_with_no_bar(3) + [without_any_bar]


def tables_too_long():
    """Lists of four bars and more, also with what is no bar."""
    bars = [[[1]] * 4, [[4, 3, 1], [2], [1, 1], [5]], [[2, 1]] * 5, [[3]] * 1000]
    return bars + [[[]] * 4] + lists_with_no_bar(4) + lists_with_no_bar(5)


def lists_of(value):
    """All lists of what was told or handed in: itself, and those within."""
    if isinstance(value, (list, tuple)):
        within = [found for member in value for found in lists_of(member)]
        return within + [value] if isinstance(value, list) else within
    return []
