"""Nights: what the tills of a town tell that they took, and orders of payments that explain it."""

from cutofftills.errors import BadNight
from cutofftills.events import is_units
from cutofftills.layouts import Layout
from cutofftills.moves import is_stopped, to_remember
from cutofftills.runs import plain_run
from cutofftills.words import TOP_LIMIT

MOST_UNITS = 12


def check_night(town, night):
    """Raises BadNight for any value that is no night of the town."""
    if not isinstance(night, dict):
        raise BadNight(None)
    for name, taken in night.items():
        if name not in town or not isinstance(taken, tuple) or not all([is_units(units) for units in taken]):
            raise BadNight(name)
    if sum([sum(taken) for taken in night.values()]) > MOST_UNITS:
        raise BadNight(None)


def order_of(town, night):
    """An order of the night, tills with lesser limits ahead, or None if there is none."""
    if reason(town, night) is not None:
        return None
    names = [name for limit in range(TOP_LIMIT + 1) for name in town.names() if town[name].limit == limit]
    return [("pay", name, units) for name in names for units in night.get(name, ())]


def reason(town, night):
    """Why there is no order of the night, or None if there is one."""
    check_night(town, night)
    busy = [name for name in town.names() if len(night.get(name, ())) > 0]
    for name in busy:
        if town[name].heeds and is_stopped(town.money, False):
            return "list", name
    for name in busy:
        if taken_below(town, night, name) > town[name].limit:
            return "limit", name
    return ("memory",) if is_too_much(town, night) else None


def taken_below(town, night, name):
    """The units that were taken in the group of a till at tills with no greater limit, it among them."""
    lesser = [other for other in town.group(name) if town[other].limit <= town[name].limit]
    return sum([sum(night.get(other, ())) for other in lesser])


def is_too_much(town, night):
    """Whether the card would have to remember more than it can."""
    layout = Layout(town)
    return sum([to_remember(layout, units) for taken in night.values() for units in taken]) > layout.top_remembered


def is_order(town, night, value):
    """Whether any value is an order of the night."""
    check_night(town, night)
    run = plain_run(town, value)
    if run is None or not all([event[0] == "pay" for event in run.events]):
        return False
    for name in town.names():
        if tuple([units for _, till, units in run.events if till == name]) != night.get(name, ()):
            return False
    behind = plain_run(town, cuts_of(town, night) + value)
    return all([word == "taken" for word in behind.words()[len(night):]])


def cuts_of(town, night):
    """The cuts of the tills of the night, in the order of the town."""
    return [("cut", name) for name in town.names() if name in night]


def run_of(town, night):
    """The cuts of the tills of the night and an order of it, or None if there is none."""
    order = order_of(town, night)
    return None if order is None else cuts_of(town, night) + order
