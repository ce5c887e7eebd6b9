"""Runs: lists of events that can be, one after the other."""

from cutofftills.errors import BadEvent
from cutofftills.layouts import Layout
from cutofftills.plays import can_be_played, first_play, played
from cutofftills.words import is_list


class Run:
    """A run of a town, played from the beginning; it never changes."""

    def __init__(self, town, events):
        if not is_list(events):
            raise BadEvent(None)
        layout = Layout(town)
        play = first_play(town)
        told = []
        for index, event in enumerate(events):
            if not can_be_played(town, layout, play, event):
                raise BadEvent(index)
            play, word = played(layout, play, event)
            told.append(word)
        self.town = town
        self.events = tuple(events)
        self._words = tuple(told)
        self._play = play

    def __eq__(self, other):
        return isinstance(other, Run) and self.town == other.town and self.events == other.events

    def __len__(self):
        return len(self.events)

    def words(self):
        """The words of the events."""
        return list(self._words)

    def state(self):
        """The state behind the run."""
        return self._play[0]

    def left(self):
        """What the house knows to be left, however little."""
        return self._play[1]

    def paid(self):
        """The units that are paid."""
        return paid_units(self.events, self._words)

    def topped(self):
        """The units that are topped up."""
        return sum([event[1] for event in self.events if event[0] == "top"])

    def paid_after_loss(self):
        """The units that are paid behind the loss."""
        if ("lose",) not in self.events:
            return 0
        at = self.events.index(("lose",))
        return paid_units(self.events[at:], self._words[at:])

    def overspent(self):
        """What is paid, less the money and what is topped up; nothing if this is below 0."""
        return max(0, self.paid() - self.town.money - self.topped())

    def is_honest(self):
        """Whether each payment ahead of a loss has not more units than the money that is there."""
        return all([honest for _, _, honest in payments_ahead(self)])

    def is_wronged(self):
        """Whether a telling was taken twice."""
        known = self.left() - sum(self.state()[1])
        return known < self.town.money + self.topped() - self.paid()

    def untold(self):
        """The dict from the names of the tills to what is untold there."""
        return dict(zip(self.town.names(), self.state()[1]))

    def then(self, event):
        """The Run with one event more."""
        if not can_be_played(self.town, Layout(self.town), self._play, event):
            raise BadEvent(event)
        return Run(self.town, self.events + (event,))


def run_or_none(town, value):
    """The Run of a list of events (no tuple), or None if any value is none."""
    if not isinstance(value, list):
        return None
    try:
        return Run(town, value)
    except BadEvent:
        return None


def plain_run(town, value):
    """The Run of a list of events without again, or None if any value is none."""
    run = run_or_none(town, value)
    return None if run is None or has_again(run.events) else run


def has_again(events):
    """Whether something is told again."""
    return any([event[0] == "again" for event in events])


def paid_units(events, words):
    """The units of those events that are payments that are taken."""
    return sum([event[2] for event, word in zip(events, words) if word == "taken"])


def payments_ahead(run):
    """For each payment ahead of a loss its index, its word, and whether it is honest itself."""
    rows = []
    there = run.town.money
    for index, (event, word) in enumerate(zip(run.events, run.words())):
        if event[0] == "lose":
            return rows
        if event[0] == "top":
            there = there + event[1]
        if event[0] == "pay":
            rows.append((index, word, event[2] <= there))
        if word == "taken":
            there = there - event[2]
    return rows


def wrong_refusals(run):
    """The indexes of honest payments that are refused, as long as all ahead of them are honest."""
    found = []
    for index, word, honest in payments_ahead(run):
        if not honest:
            return found
        if word != "taken":
            found.append(index)
    return found
