"""The reached states of a town, and the steps between them."""

from cutofftills.layouts import Layout
from cutofftills.moves import steps_from
from cutofftills.searches import Web
from cutofftills.states import is_state


def steps(town, state):
    """The steps of a state: tuples of an event, its word and the state behind it."""
    return steps_from(Layout(town), state)


def reached_states(town):
    """The states behind runs without again, those with fewest events first."""
    return list(Web(town).search.states)


def least_events(town, state):
    """As few events as possible that lead to a state, or None if none do."""
    search = Web(town).search
    if not is_state(town, state) or state not in search.indexes:
        return None
    return search.events_to(search.indexes[state])
