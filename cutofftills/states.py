"""States of a town, told by tuples: (lines, untold, heard, remembered, left, lost, tops)."""

from cutofftills.errors import BadEvent
from cutofftills.events import is_event
from cutofftills.layouts import Layout
from cutofftills.moves import can_follow, moved
from cutofftills.words import is_integer, is_integer_to, is_truth


def first_state(town):
    """The state at the beginning: all lines are there, nothing is untold or lost."""
    many = len(town)
    return (True,) * many, (0,) * many, (False,) * many, 0, town.money, False, town.tops


def is_state(town, value):
    """Whether any value is a state of a town by its form."""
    return has_state_form(town, Layout(town), value)


def has_state_form(town, layout, value):
    """Whether any value is a state by its form, if the layout of the town is known already."""
    if not isinstance(value, tuple) or len(value) != 7:
        return False
    lines, untold, heard, remembered, left, lost, tops = value
    if not is_row(town, lines) or not is_row(town, untold) or not is_row(town, heard):
        return False
    if not are_truths(lines) or not are_truths(heard) or not is_integer_to(remembered, layout.top_remembered):
        return False
    if not is_truth(lost) or not is_integer_to(tops, 0 if lost else town.tops):
        return False
    if not is_integer(left) or not -tops <= left <= town.money + town.tops:
        return False
    return is_untold(layout, lines, untold) and is_heard(layout, lines, heard)


def is_row(town, value):
    """Whether any value is a tuple with one entry for each till."""
    return isinstance(value, tuple) and len(value) == len(town)


def are_truths(row):
    """Whether a tuple contains truths alone."""
    return all([is_truth(value) for value in row])


def is_untold(layout, lines, untold):
    """Whether a tuple of any values tells what can be untold: nothing at tills with a line."""
    limits = [0 if line else limit for line, limit in zip(lines, layout.limits)]
    return all([is_integer_to(units, limit) for units, limit in zip(untold, limits)])


def is_heard(layout, lines, heard):
    """Whether each group heard one thing, and nothing if one of its tills has a line."""
    for group in layout.groups:
        told = [heard[index] for index in group]
        if any(told) and (not all(told) or any([lines[index] for index in group])):
            return False
    return True


def can_be(town, state, event):
    """Whether any value is an event that can be behind a state; no again is."""
    return is_event(town, event) and can_follow(Layout(town), state, event)


def after(town, state, event):
    """The state behind an event, and its word."""
    layout = Layout(town)
    if not is_event(town, event) or not can_follow(layout, state, event):
        raise BadEvent(event)
    return moved(layout, state, event)


def gain(event, word):
    """The units that are paid by an event, less those that are topped up."""
    if event[0] == "top":
        return -event[1]
    return event[2] if word == "taken" else 0


def weight_of(state, event, word, after_loss):
    """The weight of a step of a state; after_loss: one ahead of a loss has none."""
    if after_loss and not state[5]:
        return 0
    return gain(event, word)


def choices(town, state):
    """The events that can be behind a state, without agains."""
    layout = Layout(town)
    return [event for event in layout.plain_events if can_follow(layout, state, event)]
