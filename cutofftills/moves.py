"""What an event does to a state: (lines, untold, heard, remembered, left, lost, tops)."""


def with_item(row, at, value):
    """A tuple with another value at one index."""
    return row[:at] + (value,) + row[at + 1:]


def with_group(row, group, value):
    """A tuple with another value at each index of a group."""
    return tuple([value if index in group else old for index, old in enumerate(row)])


def cut_to_tops(left, tops):
    """What a state tells of what is left: below nothing only what tops can fill up."""
    return left if left > -tops else -tops


def can_follow(layout, state, event):
    """Whether an event of the town can be behind a state; agains hang on the run and are left out."""
    lines, lost, tops = state[0], state[5], state[6]
    word = event[0]
    if word == "cut":
        return lines[layout.indexes[event[1]]]
    if word == "line":
        return not lines[layout.indexes[event[1]]]
    if word == "top":
        return event[1] <= tops
    if word == "lose":
        return not lost
    return word == "pay"


def moved(layout, state, event):
    """The state behind an event that can be, no again, and the word of the event."""
    word = event[0]
    if word == "pay":
        return behind_payment(layout, state, layout.indexes[event[1]], event[2])
    if word == "cut":
        return behind_cut(layout, state, layout.indexes[event[1]]), "done"
    if word == "line":
        return behind_line(layout, state, layout.indexes[event[1]]), "done"
    if word == "top":
        return behind_top(state, event[1]), "done"
    return behind_loss(state), "done"


def behind_cut(layout, state, at):
    """The state behind the cut of a till."""
    lines, untold, heard, remembered, left, lost, tops = state
    lines = with_item(lines, at, False)
    group = layout.groups[at]
    if not any([lines[index] for index in group]):
        heard = with_group(heard, group, is_stopped(left, lost))
    return lines, untold, heard, remembered, left, lost, tops


def behind_line(layout, state, at):
    """The state behind the line that a till gets back."""
    lines, untold, heard, remembered, left, lost, tops = state
    left = cut_to_tops(left - untold[at], tops)
    lines = with_item(lines, at, True)
    untold = with_item(untold, at, 0)
    heard = with_group(heard, layout.groups[at], False)
    return lines, untold, heard, remembered, left, lost, tops


def behind_top(state, units):
    """The state behind a top-up."""
    lines, untold, heard, remembered, left, lost, tops = state
    return lines, untold, heard, remembered, left + units, lost, tops - units


def behind_loss(state):
    """The state behind the loss of the card, from which on nothing is topped up."""
    lines, untold, heard, remembered, left = state[:5]
    return lines, untold, heard, remembered, cut_to_tops(left, 0), True, 0


def behind_payment(layout, state, at, units):
    """The state behind a payment at a till, and its word."""
    word = word_of_payment(layout, state, at, units)
    if word != "taken":
        return state, word
    lines, untold, heard, remembered, left, lost, tops = state
    if lines[at]:
        return (lines, untold, heard, 0, left - units, lost, tops), word
    untold = with_item(untold, at, untold[at] + units)
    return (lines, untold, heard, remembered + to_remember(layout, units), left, lost, tops), word


def word_of_payment(layout, state, at, units):
    """The word of a payment at a till."""
    lines, untold, _, remembered, left, lost, _ = state
    if lines[at]:
        return "house" if lost or left < units else "taken"
    if layout.heeding[at] and takes_for_stopped(layout, state, at):
        return "list"
    # Tills with a line have nothing untold, so the whole group can be added up.
    if sum([untold[index] for index in layout.groups[at]]) + units > layout.limits[at]:
        return "limit"
    if remembered + to_remember(layout, units) > layout.top_remembered:
        return "memory"
    return "taken"


def takes_for_stopped(layout, state, at):
    """Whether the group of a till without a line takes the card for stopped."""
    lines, heard, left, lost = state[0], state[2], state[4], state[5]
    if any([lines[index] for index in layout.groups[at]]):
        return is_stopped(left, lost)
    return heard[at]


def is_stopped(left, lost):
    """Whether the card is stopped for the house."""
    return lost or left <= 0


def to_remember(layout, units):
    """How much more the card remembers behind a payment without a line."""
    if layout.kind == "nothing":
        return 0
    return units if layout.kind == "sum" else 1


def steps_from(layout, state):
    """The steps of a state: tuples of an event that can be, its word and the state behind it."""
    rows = []
    for event in layout.plain_events:
        if can_follow(layout, state, event):
            behind, word = moved(layout, state, event)
            rows.append((event, word, behind))
    return rows
