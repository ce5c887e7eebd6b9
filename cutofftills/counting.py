"""Tuples of counts: which are below which, and the greatest ones of some; None is above all integers."""

from cutofftills.sorting import in_order


def is_at_most(row, other):
    """Whether no number of one tuple is above the one of the other."""
    for one, top in zip(row, other):
        if top is not None and (one is None or one > top):
            return False
    return True


def is_below_any(row, rows):
    """Whether a tuple is below one of some; the last ones are asked first."""
    at = len(rows) - 1
    while at >= 0:
        if is_at_most(row, rows[at]):
            return True
        at -= 1
    return False


def key_of(row):
    """A tuple without None that is ordered as the row is, None behind all integers."""
    return tuple([(1, 0) if one is None else (0, one) for one in row])


def row_of(key):
    """The row of a key."""
    return tuple([None if kind == 1 else one for kind, one in key])


def greatest_of(rows):
    """The ascending list of the greatest ones of some tuples."""
    keys = list({key_of(row): True for row in rows})
    found = []
    # Whatever is above a row comes ahead of it, from the last key on.
    for key in in_order(keys)[::-1]:
        row = row_of(key)
        if not is_below_any(row, found):
            found.append(row)
    return found[::-1]
