"""A play: the tuple (state, left, told) behind a run.

Beside the state it has what is left, however little, and for each till what it
told when its line came back last: (`again`, till) hangs on these.
"""

from cutofftills.events import is_event
from cutofftills.moves import can_follow, cut_to_tops, moved, with_item
from cutofftills.states import first_state


def first_play(town):
    """The play at the beginning."""
    return first_state(town), town.money, (0,) * len(town)


def can_be_played(town, layout, play, event):
    """Whether any value is an event that can be behind a play, agains too."""
    if not is_event(town, event):
        return False
    state, _, told = play
    if event[0] == "again":
        at = layout.indexes[event[1]]
        return state[0][at] and told[at] > 0
    return can_follow(layout, state, event)


def played(layout, play, event):
    """The play behind an event that can be, and the word of the event."""
    if event[0] == "again":
        return told_again(layout, play, layout.indexes[event[1]]), "done"
    state, left, told = play
    behind, word = moved(layout, state, event)
    if event[0] == "top":
        left = left + event[1]
    if event[0] == "line":
        at = layout.indexes[event[1]]
        left = left - state[1][at]
        told = with_item(told, at, state[1][at])
    if word == "taken" and state[0][layout.indexes[event[1]]]:
        left = left - event[2]
    return (behind, left, told), word


def told_again(layout, play, at):
    """The play behind the again of a till."""
    if layout.numbered:
        return play
    state, left, told = play
    left = left - told[at]
    return with_item(state, 4, cut_to_tops(left, state[6])), left, told
