"""Towns with clocks: each till begins new days by its own clock."""

from cutofftills.climbs import climb_from, most_of, play_through, ways_of
from cutofftills.errors import BadEvent, BadPart, BadTown
from cutofftills.events import is_event
from cutofftills.layouts import Layout
from cutofftills.moves import can_follow, moved, to_remember, with_item, word_of_payment
from cutofftills.states import first_state, gain
from cutofftills.sums import group_sum, has_money, has_spare, is_plain
from cutofftills.towns import Town
from cutofftills.words import is_integer_to, is_word

MOST_DAYS = 5


class Clocks:
    """A town in which each till begins new days, so many in all; it never changes."""

    def __init__(self, town, *, days=None):
        if not isinstance(town, Town):
            raise BadTown(town)
        if days is not None and not is_integer_to(days, MOST_DAYS):
            raise BadPart("days")
        self.town = town
        self.days = days
        self._layout = Layout(town)

    def __eq__(self, other):
        return isinstance(other, Clocks) and self.town == other.town and self.days == other.days

    def all_events(self):
        """All events: those of the town, without agains, and the days."""
        return list(self._layout.plain_events) + [("day", name) for name in self.town.names()]

    def first(self):
        """The state at the beginning: (state of the town, counted, days)."""
        return first_state(self.town), (0,) * len(self.town), self.days

    def choices(self, state):
        """The events that can be behind a state."""
        return [event for event in self.all_events() if can_come(self._layout, state, event)]

    def after(self, state, event):
        """The state behind an event, and its word."""
        row = clock_step(self, state, event)
        if row is None:
            raise BadEvent(event)
        return row[0], row[1]

    def most(self):
        """The most that can be overspent, or None if there is no bound."""
        return most_of(clock_climb(self), self.town.money)

    def most_run(self):
        """Events behind which the most is overspent and [], or a lead and a ring."""
        return ways_of(clock_climb(self), self.town.money)

    def play(self, events):
        """The state behind a list of events from the beginning, their words, and what is overspent."""
        state, words, paid = play_through(self.first(), events, lambda here, event: clock_step(self, here, event))
        return state, words, max(0, paid - self.town.money)


def most_told(town):
    """The most that a state tells as untold at one till: more takes no more from what is left."""
    return town.money + 2 * town.tops


def is_clock_event(town, value):
    """Whether any value is an event of a town with clocks."""
    if isinstance(value, tuple) and len(value) == 2 and is_word(value[0], "day"):
        return value[1] in town
    return is_event(town, value) and value[0] != "again"


def can_come(layout, state, event):
    """Whether an event of a town with clocks can be behind a state."""
    if event[0] == "day":
        return not state[0][0][layout.indexes[event[1]]] and (state[2] is None or state[2] > 0)
    return can_follow(layout, state[0], event)


def clock_moved(layout, cap, state, event):
    """The state behind an event that can be, and its word; no more than cap is told as untold at a till."""
    inner, counted, days = state
    if event[0] == "day":
        days = None if days is None else days - 1
        return (inner, with_item(counted, layout.indexes[event[1]], 0), days), "done"
    if event[0] == "pay" and not inner[0][layout.indexes[event[1]]]:
        return behind_counted(layout, cap, state, layout.indexes[event[1]], event[2])
    if event[0] == "line":
        counted = with_item(counted, layout.indexes[event[1]], 0)
    behind, word = moved(layout, inner, event)
    return (behind, counted, days), word


def behind_counted(layout, cap, state, at, units):
    """The state behind a payment at a till without a line, and its word: what is counted stands for the untold."""
    inner, counted, days = state
    lines, untold, heard, remembered, left, lost, tops = inner
    word = word_of_payment(layout, (lines, counted, heard, remembered, left, lost, tops), at, units)
    if word != "taken":
        return state, word
    counted = with_item(counted, at, counted[at] + units)
    untold = with_item(untold, at, untold[at] + units if untold[at] + units < cap else cap)
    remembered = remembered + to_remember(layout, units)
    return ((lines, untold, heard, remembered, left, lost, tops), counted, days), word


def clock_step(clocks, state, event):
    """The state behind an event, its word and its weight; None for any value that is no event that can be."""
    if not is_clock_event(clocks.town, event) or not can_come(clocks._layout, state, event):
        return None
    behind, word = clock_moved(clocks._layout, most_told(clocks.town), state, event)
    return behind, word, gain(event, word)


def clock_climb(clocks):
    """The Climb of the states that are reached with clocks."""
    return climb_from(clocks.first(), clocks.all_events(), lambda here, event: clock_step(clocks, here, event))


def closed_days(clocks):
    """The most that can be overspent in a plain town with so many days; None for other towns and for days None."""
    town = clocks.town
    if clocks.days is None or not is_plain(town):
        return None
    if not has_money(town):
        return 0
    most = group_sum(town) + clocks.days * greatest_of(town)
    return most if has_spare(town) else most - 1


def greatest_of(town):
    """The greatest limit of all tills."""
    return max([int(town[name].limit) for name in town.names()])


def has_bound(clocks):
    """Whether there is a bound to what can be overspent in a plain town; None for other towns."""
    if not is_plain(clocks.town):
        return None
    return clocks.days is not None or greatest_of(clocks.town) == 0 or not has_money(clocks.town)
