"""Papers: what is told about a town, with all that is needed to see that it is so."""

from cutofftills.climbs import most_of, town_climb, ways_of
from cutofftills.graphs import reached_states
from cutofftills.honest import first_refusals, taken_twice


def most_paper(town):
    """A paper of the most that can be overspent, or that there is no bound."""
    return climb_paper(town_climb(town, False), town.money)


def loss_paper(town):
    """A paper of the most that can be paid after a loss, or that there is no bound."""
    return climb_paper(town_climb(town, True), 0)


def climb_paper(climb, money):
    """A run that comes to the most and a height for each reached state, or a lead and a ring."""
    events, ring = ways_of(climb, money)
    most = most_of(climb, money)
    if most is None:
        return "ring", events, ring
    return "most", most, events, list(zip(climb.search.states, climb.heights))


def refusal_paper(town):
    """A paper of a payment that is wrongly refused, or that there is none."""
    found, states = first_refusals(town, 1)
    runs = list(found.values())
    return ("run", runs[0]) if runs else ("never", list(states))


def twice_paper(town):
    """A paper of a payment that is taken twice, or that there is none."""
    events = taken_twice(town)
    if events is not None:
        return "run", events
    # If nothing is taken twice in a town without numbers, nothing is ever untold there.
    return "never", [] if town.numbered else reached_states(town)
