"""Limits, whole or broken, at which one term tells more than some others, found by exact pivots.

A term tells more than each of some others somewhere exactly if no mixture of
the others is nowhere below it. For each other term let a row be the term less
that one: its times, and its off turned round. Numbers from 0 on, one for each
column, by which each row comes to 1 at least, are such limits and what they
are divided by; if there are none, then a mixture of rows from 0 on has no
column above 0. The mixture with the greatest sum is looked for, from none on:
either it grows without bound, or the last prices of the columns are the numbers.
All numbers of the table are to be divided by the last pivot, so that they stay
integers (Edmonds); the first of several possible pivots is taken, so that it
never goes round (Bland).
"""


def point_above(term, others):
    """Limits as a tuple (numbers, over) at which a term tells more than all others, or None."""
    times, off = term
    rows = [tuple([one - two for one, two in zip(times, low)]) + (less - off,) for low, less in others]
    prices = prices_of(rows, len(times) + 1)
    if prices is None:
        return None
    numbers, over = prices[:-1], prices[-1]
    if over > 0:
        return numbers, over
    # Far enough out on this ray the offs do not matter.
    return tuple([number * (off + 1) for number in numbers]), 1


def prices_of(rows, many):
    """Integers from 0 on, one for each of so many columns, by which each row comes to more than 0, or None."""
    unit = [[1 if one == two else 0 for two in range(many)] for one in range(many)]
    prices = [-1 for _ in rows] + [0 for _ in range(many)]
    table = [[row[column] for row in rows] + unit[column] for column in range(many)] + [prices]
    basis = list(range(len(rows), len(rows) + many))
    over = 1
    column = falling(table[-1])
    while column is not None:
        at = leaving(table, basis, column)
        if at is None:
            return None
        pivot = table[at][column]
        table = pivoted(table, at, column, over)
        basis = basis[:at] + [column] + basis[at + 1:]
        over = pivot
        column = falling(table[-1])
    return tuple(table[-1][len(rows):])


def falling(prices):
    """The first column with a price below 0, or None."""
    for column, price in enumerate(prices):
        if price < 0:
            return column
    return None


def leaving(table, basis, column):
    """The row above 0 in a column whose part of the basis is the first one, or None; all rows end with 0."""
    best = None
    for at, part in enumerate(basis):
        if table[at][column] > 0 and (best is None or part < basis[best]):
            best = at
    return best


def pivoted(table, at, column, over):
    """The table behind a pivot; over is the one ahead of it."""
    row = table[at]
    pivot = row[column]
    return [line if index == at else [(one * pivot - line[column] * two) // over for one, two in zip(line, row)]
            for index, line in enumerate(table)]
