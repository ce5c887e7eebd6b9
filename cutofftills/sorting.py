"""Tuples in ascending order: only numbers and strings are given to `sorted` here (L5)."""


def in_order(rows):
    """The ascending list of some tuples, each as often as it is there."""
    if len(rows) < 2:
        return list(rows)
    half = len(rows) // 2
    return merged(in_order(rows[:half]), in_order(rows[half:]))


def merged(one, other):
    """The ascending list of the tuples of two ascending lists."""
    found = []
    at = 0
    for row in one:
        while at < len(other) and other[at] < row:
            found.append(other[at])
            at += 1
        found.append(row)
    return found + other[at:]
