"""Honest payments: which can be refused though the money is there, and which taken twice."""

from cutofftills.layouts import Layout
from cutofftills.moves import steps_from
from cutofftills.searches import Search
from cutofftills.states import first_state

# The house refuses none of them: what is left there is never less than the money that is there.
REFUSALS = ("limit", "list", "memory")


def is_honest_event(state, event):
    """Whether an event behind honest payments keeps them so, and is no loss."""
    if event[0] == "pay":
        return event[2] <= state[4] - sum(state[1])
    return event[0] != "lose"


def first_refusals(town, enough):
    """The dict from words to runs of fewest events that end with such a wrong refusal, and the states seen.

    It looks on until it has so many words, or has seen all states behind honest payments.
    """
    layout = Layout(town)
    search = Search(first_state(town))
    found = {}
    at = 0
    while at < len(search.states) and len(found) < enough:
        state = search.states[at]
        for event, word, behind in steps_from(layout, state):
            if is_honest_event(state, event):
                if word in REFUSALS and word not in found:
                    found[word] = search.events_to(at) + [event]
                search.reach(behind, at, event)
        at += 1
    return found, search.states


def refused_run(town):
    """As few events as possible, the last one a payment that is wrongly refused, or None."""
    found, _ = first_refusals(town, 1)
    runs = list(found.values())
    return runs[0] if runs else None


def refusals_of(town):
    """The ascending list of the words with which payments can be wrongly refused."""
    found, _ = first_refusals(town, len(REFUSALS))
    return [word for word in REFUSALS if word in found]


def taken_twice(town):
    """As few events as possible, the last one an again by which a payment is taken twice, or None."""
    if town.numbered:
        return None
    layout = Layout(town)
    search = Search(first_state(town))
    at = 0
    while at < len(search.states):
        state = search.states[at]
        for name, units in zip(town.names(), state[1]):
            if units > 0:
                return search.events_to(at) + [("line", name), ("again", name)]
        for event, _, behind in steps_from(layout, state):
            search.reach(behind, at, event)
        at += 1
    return None
