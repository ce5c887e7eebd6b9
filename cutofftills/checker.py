"""The checker of papers: it plays their runs and takes single steps, and searches for nothing."""

from cutofftills.honest import is_honest_event
from cutofftills.layouts import Layout
from cutofftills.moves import steps_from
from cutofftills.runs import has_again, plain_run, run_or_none, wrong_refusals
from cutofftills.states import first_state, has_state_form, weight_of
from cutofftills.words import is_integer, is_word


def lets_most(town, value):
    """Whether any value is a paper of the most that can be overspent."""
    return lets_bound(town, value, False)


def lets_loss(town, value):
    """Whether any value is a paper of the most that can be paid after a loss."""
    return lets_bound(town, value, True)


def lets_refusal(town, value):
    """Whether any value is a paper of whether a payment can be wrongly refused."""
    if is_paper(value, "run", 2):
        run = plain_run(town, value[1])
        return run is not None and len(run) - 1 in wrong_refusals(run)
    return is_paper(value, "never", 2) and never_refuses(town, value[1])


def lets_twice(town, value):
    """Whether any value is a paper of whether a payment can be taken twice."""
    if is_paper(value, "run", 2):
        return takes_twice(town, value[1])
    if not is_paper(value, "never", 2):
        return False
    if town.numbered:
        return isinstance(value[1], list) and len(value[1]) == 0
    return never_tells(town, value[1])


def is_paper(value, word, size):
    """Whether any value is a tuple of so many parts with a word as the first one."""
    return isinstance(value, tuple) and len(value) == size and is_word(value[0], word)


def lets_bound(town, value, after_loss):
    """Whether any value is a paper of the most, in all or after a loss alone."""
    if is_paper(value, "ring", 3):
        return rises(town, value[1], value[2], after_loss)
    return is_paper(value, "most", 4) and is_bound(town, value[1:], after_loss)


def rises(town, lead, ring, after_loss):
    """Whether any values are a lead and a ring behind it, in which more and more is paid."""
    ahead = plain_run(town, lead)
    if ahead is None or not isinstance(ring, list):
        return False
    behind = plain_run(town, lead + ring)
    if behind is None or behind.state() != ahead.state():
        return False
    if after_loss:
        return behind.paid_after_loss() > ahead.paid_after_loss()
    return behind.paid() - behind.topped() > ahead.paid() - ahead.topped()


def is_bound(town, told, after_loss):
    """Whether a tuple (most, events, rows) of any values tells the most."""
    most, events, rows = told
    run = plain_run(town, events)
    if run is None or not is_integer(most):
        return False
    if most != (run.paid_after_loss() if after_loss else run.overspent()):
        return False
    heights = heights_told(town, rows)
    if heights is None or not begins_within(town, heights):
        return False
    if not all([height <= (most if after_loss else most + town.money) for height in heights.values()]):
        return False
    return is_closed(town, heights, after_loss)


def heights_told(town, rows):
    """The dict from states to heights that a list of rows tells, or None if any value is no such list."""
    if not isinstance(rows, list):
        return None
    layout = Layout(town)
    heights = {}
    for row in rows:
        if not isinstance(row, tuple) or len(row) != 2:
            return None
        state, height = row
        if not has_state_form(town, layout, state) or state in heights or not is_integer(height):
            return None
        heights[state] = height
    return heights


def begins_within(town, heights):
    """Whether the state at the beginning is there, with no height below 0."""
    first = first_state(town)
    return first in heights and heights[first] >= 0


def is_closed(town, heights, after_loss):
    """Whether each step leads to a state that is there, at least as high as it must be."""
    layout = Layout(town)
    for state, height in heights.items():
        for event, word, behind in steps_from(layout, state):
            if behind not in heights or heights[behind] < height + weight_of(state, event, word, after_loss):
                return False
    return True


def states_told(town, value):
    """The dict with the states of a list as its keys, or None if any value is no list of states."""
    if not isinstance(value, list):
        return None
    layout = Layout(town)
    states = {}
    for state in value:
        if not has_state_form(town, layout, state):
            return None
        states[state] = True
    return states


def never_refuses(town, value):
    """Whether any value is a list of states that honest payments never leave, and in which none is refused."""
    states = states_told(town, value)
    if states is None or first_state(town) not in states:
        return False
    layout = Layout(town)
    for state in states:
        if state[5]:
            return False
        for event, word, behind in steps_from(layout, state):
            if is_honest_event(state, event) and (word not in ("done", "taken") or behind not in states):
                return False
    return True


def takes_twice(town, value):
    """Whether any value is a list of events, the last one an again, the first one, that takes a payment twice."""
    run = run_or_none(town, value)
    if run is None or len(run) == 0 or town.numbered:
        return False
    return run.events[-1][0] == "again" and not has_again(run.events[:-1])


def never_tells(town, value):
    """Whether any value is a list of states that no step leaves, and in which nothing is untold."""
    states = states_told(town, value)
    if states is None or first_state(town) not in states:
        return False
    layout = Layout(town)
    for state in states:
        if any([units > 0 for units in state[1]]):
            return False
        if not all([behind in states for _, _, behind in steps_from(layout, state)]):
            return False
    return True
