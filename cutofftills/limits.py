"""Wishes, and the greatest limits with which they are kept."""

from cutofftills.errors import BadPart, BadWish, TooMany
from cutofftills.moves import with_item
from cutofftills.runs import Run
from cutofftills.words import is_integer_to, is_limit
from cutofftills.worst import most_overspent, worst_run

TOP_WISH = 99
MOST_ROWS = 256


def check_wish(wish):
    """Raises BadWish for any value that is no wish."""
    if not is_integer_to(wish, TOP_WISH):
        raise BadWish(wish)


def check_most(most):
    """Raises BadPart for any value that is no greatest limit."""
    if not is_limit(most):
        raise BadPart("most")


def keeps_wish(town, wish):
    """Whether there is a bound to what can be overspent, not above the wish."""
    check_wish(wish)
    most = most_overspent(town)
    return most is not None and most <= wish


def all_limits(many, most):
    """The ascending list of all tuples of so many limits from 0 to most."""
    rows = [()]
    for _ in range(many):
        rows = [row + (limit,) for row in rows for limit in range(most + 1)]
    return rows


def best_limits(town, wish, most):
    """The ascending list of the greatest tuples of limits, up to most, with which the town keeps the wish."""
    check_wish(wish)
    check_most(most)
    rows = all_limits(len(town), most)
    if len(rows) > MOST_ROWS:
        raise TooMany(MOST_ROWS)
    kept = {}
    for row in rows:
        # What tills take they also take with greater limits, so no greater ones need to be tried.
        if all([below in kept for below in beside(row, -1, 0)]) and keeps_wish(town.with_limits(row), wish):
            kept[row] = True
    return [row for row in kept if not any([above in kept for above in beside(row, 1, most)])]


def beside(row, change, end):
    """The tuples in which one of the limits, if it is not at its end, is changed."""
    return [with_item(row, at, limit + change) for at, limit in enumerate(row) if limit != end]


def foes(town, limits, wish, most):
    """The dict from the tills with limits below most to runs that overspend with one unit more there, or None."""
    lesser = town.with_limits(limits)
    check_wish(wish)
    check_most(most)
    found = {}
    for name in lesser.names():
        till = lesser[name]
        if till.limit < most:
            found[name] = foe_of(lesser.with_till(till.changed("limit", till.limit + 1)), wish)
    return found


def foe_of(town, wish):
    """A run behind which more than the wish is overspent, or None if the town keeps it."""
    events, ring = worst_run(town)
    while len(ring) > 0 and Run(town, events).overspent() <= wish:
        events = events + ring
    return events if Run(town, events).overspent() > wish else None
