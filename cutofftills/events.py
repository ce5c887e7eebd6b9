"""The form of the events of a town."""

from cutofftills.words import is_integer

UNITS = (1, 2)
TILL_WORDS = ("cut", "line", "again")


def is_units(value):
    """Whether any value is what one payment or one top-up can have."""
    return is_integer(value) and value in UNITS


def is_event(town, value):
    """Whether any value is an event of a town; whether it can be is not asked."""
    if not isinstance(value, tuple) or not 1 <= len(value) <= 3 or not isinstance(value[0], str):
        return False
    if len(value) == 1:
        return value[0] == "lose"
    if len(value) == 3:
        return value[0] == "pay" and value[1] in town and is_units(value[2])
    if value[0] == "top":
        return is_units(value[1])
    return value[0] in TILL_WORDS and value[1] in town


def events_of(town):
    """All events of a town: cuts, lines, payments, top-ups, the loss, agains."""
    names = town.names()
    events = [("cut", name) for name in names]
    events.extend([("line", name) for name in names])
    events.extend([("pay", name, units) for name in names for units in UNITS])
    events.extend([("top", units) for units in UNITS])
    events.append(("lose",))
    events.extend([("again", name) for name in names])
    return events
