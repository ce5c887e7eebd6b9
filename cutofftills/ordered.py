"""Towns beside one another: which of them takes what the other one refuses."""

from cutofftills.errors import BadTown
from cutofftills.layouts import Layout
from cutofftills.moves import moved, steps_from
from cutofftills.runs import plain_run
from cutofftills.searches import Search
from cutofftills.states import first_state
from cutofftills.towns import Town


def check_comparable(one, other):
    """Raises BadTown for any value that is no Town comparable to the first one."""
    if not isinstance(other, Town) or one.names() != other.names() or one.tops != other.tops:
        raise BadTown(other)


def taken_more(one, other):
    """As few events as possible, the last one a payment that one takes and other refuses, or None."""
    check_comparable(one, other)
    return first_difference(one, other, False)


def is_stricter(one, other):
    """Whether one takes in no trial of both a payment that other refuses."""
    return taken_more(one, other) is None


def are_alike(one, other):
    """Whether each town is stricter than the other one."""
    return parting(one, other) is None


def parting(one, other):
    """As few events as possible, the last one a payment that just one of both takes, or None."""
    check_comparable(one, other)
    return first_difference(one, other, True)


def parts(one, other, value):
    """Whether any value is a trial of both whose last event is a payment that just one of them takes."""
    check_comparable(one, other)
    here = plain_run(one, value)
    there = plain_run(other, value)
    if here is None or there is None or len(here) == 0:
        return False
    return is_difference(here.words()[-1], there.words()[-1], True)


def is_difference(word, answer, both):
    """Whether an event with a word in one town and an answer in the other is taken there alone, or if both in one."""
    if word == "taken":
        return answer != "taken"
    return both and answer == "taken"


def first_difference(one, other, both):
    """As few events as possible, the last one such a difference, or None, by a search through pairs of states."""
    layout = Layout(one)
    beside = Layout(other)
    search = Search((first_state(one), first_state(other)))
    at = 0
    while at < len(search.states):
        here, there = search.states[at]
        # What can be does not hang on what is taken: the steps of one town can be in the other one too.
        for event, word, behind in steps_from(layout, here):
            beyond, answer = moved(beside, there, event)
            if is_difference(word, answer, both):
                return search.events_to(at) + [event]
            search.reach((behind, beyond), at, event)
        at += 1
    return None
