"""A search through states, by fewest events."""

from cutofftills.errors import TooMany
from cutofftills.layouts import Layout
from cutofftills.moves import steps_from
from cutofftills.states import first_state

MOST_STATES = 20000


class Search:
    """States in the order in which they are found, each with the step by which it was."""

    def __init__(self, first):
        self.states = [first]
        self.indexes = {first: 0}
        self.sources = [None]

    def reach(self, state, source, event):
        """The index of a state to which an event leads from the state at the index source."""
        if state in self.indexes:
            return self.indexes[state]
        at = len(self.states)
        if at == MOST_STATES:
            raise TooMany(MOST_STATES)
        self.states.append(state)
        self.indexes[state] = at
        self.sources.append((source, event))
        return at

    def events_to(self, at):
        """The events by which the state at an index was found, from the first one on."""
        events = []
        while self.sources[at] is not None:
            at, event = self.sources[at]
            events.append(event)
        return events[::-1]


class Web:
    """The reached states of a town, by a search, and their steps to one another."""

    def __init__(self, town):
        layout = Layout(town)
        self.search = Search(first_state(town))
        # By the indexes of states, as lists of tuples (event, word, index of the state behind).
        self.steps = []
        while len(self.steps) < len(self.search.states):
            at = len(self.steps)
            rows = steps_from(layout, self.search.states[at])
            self.steps.append([(event, word, self.search.reach(behind, at, event)) for event, word, behind in rows])
