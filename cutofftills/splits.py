"""Splits of a whole among the tills of a town."""

from cutofftills.errors import BadWhole, TooMany
from cutofftills.hearing import is_less
from cutofftills.limits import all_limits, check_wish, keeps_wish
from cutofftills.words import TOP_LIMIT, is_integer_to
from cutofftills.worst import most_overspent

TOP_WHOLE = 36
MOST_SPLITS = 200


def splits(town, whole):
    """The ascending list of all splits of a whole."""
    if not is_integer_to(whole, TOP_WHOLE):
        raise BadWhole(whole)
    rows = [row for row in all_limits(len(town), TOP_LIMIT) if sum(row) == whole]
    if len(rows) > MOST_SPLITS:
        raise TooMany(MOST_SPLITS)
    return rows


def keeping(town, whole, wish):
    """The ascending list of the splits with which the town keeps the wish."""
    check_wish(wish)
    return [row for row in splits(town, whole) if keeps_wish(town.with_limits(row), wish)]


def best_splits(town, whole):
    """The least most with any split, and the ascending list of the splits with it."""
    least = None
    best = []
    for row in splits(town, whole):
        most = most_overspent(town.with_limits(row))
        if is_less(most, least):
            least = most
            best = []
        if most is not None and most == least:
            best.append(row)
    return least, best
