"""Worths of bars, and the rule that tells those of hooks."""

from bitebar.bars import check_bar, left_behind, places_of_bites


def added(numbers):
    """The sum by figures of two, without carrying."""
    total = 0
    for number in numbers:
        total = total ^ number
    return total


def least_not_among(numbers):
    least = 0
    while least in numbers:
        least = least + 1
    return least


def worth_by(bar, known):
    """The worth of a bar; `known` keeps each worth that is worked out, by the bar's rows as a tuple."""
    rows = tuple(bar)
    # Different bites lead to the same bars over and over: without this the work grows beyond bounds.
    if rows not in known:
        behind = [left_behind(bar, row, column) for row, column in places_of_bites(bar)]
        known[rows] = least_not_among([worth_by(left, known) for left in behind])
    return known[rows]


def worth(bar):
    check_bar(bar)
    return worth_by(bar, {})


def is_hook(bar):
    return all([pieces == 1 for pieces in bar[1:]])


def hook_worth(bar):
    check_bar(bar)
    if not is_hook(bar):
        return None
    return added([bar[0] - 1, len(bar) - 1])
