"""Lives: towns that go on, event by event."""

from cutofftills.errors import BadEvent, NothingToUndo
from cutofftills.events import events_of
from cutofftills.layouts import Layout
from cutofftills.plays import can_be_played, first_play, played
from cutofftills.runs import Run


class Life:
    """A town with what happened in it so far; it changes."""

    def __init__(self, town):
        self.town = town
        self.events = ()
        self._layout = Layout(town)
        self._plays = [first_play(town)]

    def __eq__(self, other):
        return isinstance(other, Life) and self.town == other.town and self.events == other.events

    def __len__(self):
        return len(self.events)

    def do(self, event):
        """Lets an event be; its word."""
        if not self.can(event):
            raise BadEvent(event)
        play, word = played(self._layout, self._plays[-1], event)
        self._plays.append(play)
        self.events = self.events + (event,)
        return word

    def undo(self):
        """Takes the last event back."""
        if len(self.events) == 0:
            raise NothingToUndo("undo")
        self._plays.pop()
        self.events = self.events[:-1]

    def run(self):
        """The Run of the events so far."""
        return Run(self.town, self.events)

    def can(self, event):
        """Whether any value is an event that can be now, agains too."""
        return can_be_played(self.town, self._layout, self._plays[-1], event)

    def choices(self):
        """The events that can be now."""
        return [event for event in events_of(self.town) if self.can(event)]

    def copy(self):
        """A Life with the same events that goes on by itself."""
        life = Life(self.town)
        for event in list(self.events):
            life.do(event)
        return life

    def night(self):
        """Gets all lines back, in the order of the town; the events by which this was done."""
        lines = [("line", name) for name in self.town.names() if self.can(("line", name))]
        for line in lines:
            self.do(line)
        return lines
