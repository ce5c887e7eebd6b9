"""A plain checker of papers that follows the document word by word, papers of other hands, and bent ones.

It shares no code with the package but `Town` and `is_state`, the form of a state.
"""

import copy
import itertools
import random

from cutofftills.states import is_state
from plain import Plain, all_events, plain_choices, plain_states


class Book:
    """A town with what the plain papers look up in it: the steps of states, reached or not."""

    def __init__(self, town):
        self.town = town
        self.first = Plain(town).state()
        self.states = list(plain_states(town))
        self._rows = {}

    def rows(self, state):
        """The rows (event, word, state behind, units paid, units topped up) of a state."""
        if state not in self._rows:
            self._rows[state] = [self.row(state, event) for event in plain_choices(at_state(self.town, state))]
        return self._rows[state]

    def row(self, state, event):
        plain = at_state(self.town, state)
        word = plain.do(event)
        return event, word, plain.state(), plain.paid, event[1] if event[0] == "top" else 0

    def closure(self, state):
        """All states to which steps lead from a state, itself first."""
        found = {state: True}
        queue = [state]
        for one in queue:
            for row in self.rows(one):
                if row[2] not in found:
                    found[row[2]] = True
                    queue.append(row[2])
        return queue

    def weight(self, state, row, after_loss):
        return 0 if after_loss and not state[5] else row[3] - row[4]


def at_state(town, state):
    """A plain town in a state."""
    plain = Plain(town, clipped=True)
    lines, untold, heard, remembered, left, lost, tops = state
    plain.line = dict(zip(town.names(), lines))
    plain.untold = dict(zip(town.names(), untold))
    plain.heard = dict(zip(town.names(), heard))
    plain.since = [1] * remembered if town.memory[0] == "times" else [remembered]
    plain.left = left
    plain.lost = lost
    plain.topped = town.tops - tops
    return plain


def played_plainly(town, events):
    """The plain town behind any value, if that is a list of events that can be, with what it was ahead of each."""
    if type(events) is not list:
        return None
    plain = Plain(town)
    plain.ahead = []
    for event in events:
        if type(event) is not tuple or not all(type(part) in (int, str) for part in event):
            return None
        if event not in all_events(town) or not plain.can(event):
            return None
        plain.ahead.append((plain.room(), plain.lost))
        plain.do(event)
    return plain


def has_again(events):
    return any(event[0] == "again" for event in events)


def lets_bound(book, value, after_loss):
    town = book.town
    if type(value) is not tuple or not value or type(value[0]) is not str:
        return False
    if value[0] == "ring" and len(value) == 3:
        ahead = played_plainly(town, value[1])
        if ahead is None or type(value[2]) is not list:
            return False
        behind = played_plainly(town, value[1] + value[2])
        if behind is None or has_again(value[1] + value[2]) or behind.state() != ahead.state():
            return False
        return risen(behind, after_loss) > risen(ahead, after_loss)
    if value[0] != "most" or len(value) != 4 or type(value[1]) is not int:
        return False
    behind = played_plainly(town, value[2])
    if behind is None or has_again(value[2]):
        return False
    if value[1] != (behind.paid_after_loss if after_loss else behind.overspent()):
        return False
    return rows_hold(book, value[3], value[1] + (0 if after_loss else town.money), after_loss)


def risen(plain, after_loss):
    return plain.paid_after_loss if after_loss else plain.paid - plain.topped


def rows_hold(book, rows, top, after_loss):
    if type(rows) is not list or not all(type(row) is tuple and len(row) == 2 for row in rows):
        return False
    if not all(is_state(book.town, row[0]) and type(row[1]) is int for row in rows):
        return False
    heights = dict(rows)
    if len(heights) != len(rows) or heights.get(book.first, -1) < 0 or max(heights.values()) > top:
        return False
    return all(row[2] in heights and heights[row[2]] >= heights[state] + book.weight(state, row, after_loss)
               for state in heights for row in book.rows(state))


def lets_most(book, value):
    return lets_bound(book, value, False)


def lets_loss(book, value):
    return lets_bound(book, value, True)


def is_pair(value):
    return type(value) is tuple and len(value) == 2 and type(value[0]) is str


def lets_refusal(book, value):
    if not is_pair(value):
        return False
    if value[0] == "run":
        behind = played_plainly(book.town, value[1])
        if behind is None or not value[1] or has_again(value[1]) or behind.words[-1] in ("done", "taken"):
            return False
        return all(not lost and (event[0] != "pay" or event[2] <= room)
                   for event, (room, lost) in zip(value[1], behind.ahead))
    if value[0] != "never" or not are_states(book, value[1]) or any(state[5] for state in value[1]):
        return False
    for state in value[1]:
        for event, word, behind, _, _ in book.rows(state):
            if event[0] == "lose" or event[0] == "pay" and event[2] > state[4] - sum(state[1]):
                continue
            if word not in ("done", "taken") or behind not in value[1]:
                return False
    return True


def are_states(book, value):
    return type(value) is list and all(is_state(book.town, state) for state in value) and book.first in value


def lets_twice(book, value):
    if not is_pair(value):
        return False
    if value[0] == "run":
        behind = played_plainly(book.town, value[1])
        return (behind is not None and len(value[1]) > 0 and not book.town.numbered and value[1][-1][0] == "again"
                and not has_again(value[1][:-1]))
    if value[0] != "never":
        return False
    if book.town.numbered:
        return type(value[1]) is list and value[1] == []
    return are_states(book, value[1]) and all(
        not any(state[1]) and all(row[2] in value[1] for row in book.rows(state)) for state in value[1])


def gains(book, states, after_loss):
    """The dict from states, a closed list, to the greatest weight of ways ahead of them; there is a bound to it."""
    ahead = {state: 0 for state in states}
    grows = True
    while grows:
        grows = False
        for state in states[::-1]:
            for row in book.rows(state):
                weight = book.weight(state, row, after_loss) + ahead[row[2]]
                if weight > ahead[state]:
                    ahead[state] = weight
                    grows = True
    return ahead


def other_hands(book, paper, after_loss):
    """Papers of the most that others wrote: with the same run, and with other rows."""
    _, most, events, rows = paper
    town = book.town
    top = most if after_loss else most + town.money
    chance = random.Random(len(rows))
    ahead = gains(book, book.states, after_loss)
    # As high as can be: what is still gained fits in below the top.
    highest = [(state, top - ahead[state]) for state in book.states]
    chance.shuffle(highest)
    papers = [("most", most, events, highest), ("most", most, events, rows[::-1])]
    lowest = dict(rows)
    mixed = [(state, (lowest[state] + top - ahead[state]) // 2) for state in book.states]
    papers.append(("most", most, events, mixed))
    for state in unreached(book, chance):
        states = book.closure(state)
        more = [one for one in states if one not in lowest]
        ahead = gains(book, book.states + more, after_loss)
        papers.append(("most", most, events, [(one, top - ahead[one]) for one in more + book.states]))
    return papers


def unreached(book, chance):
    """Some states by form that are not reached, with all behind them states by form, too."""
    many = len(book.town)
    found = []
    for _ in range(60):
        state = (tuple(chance.random() < 0.5 for _ in range(many)), tuple(chance.randrange(3) for _ in range(many)),
                 tuple(chance.random() < 0.3 for _ in range(many)), chance.randrange(2), chance.randrange(-1, 3),
                 chance.random() < 0.5, chance.randrange(2))
        if is_state(book.town, state) and state not in book.states:
            if all(is_state(book.town, one) for one in book.closure(state)):
                found.append(state)
    return found[:3]


def bent_lists(events, chance, more):
    """A list with items left out, twice, more, or in another order; and as another kind."""
    for at in range(min(len(events), 6)):
        at = chance.randrange(len(events))
        yield events[:at] + events[at + 1:]
        yield events[:at] + [events[at]] + events[at:]
        other = chance.randrange(len(events))
        swapped = list(events)
        swapped[at], swapped[other] = swapped[other], swapped[at]
        yield swapped
        yield events[:at]
        yield events[at:]
    for item in more:
        yield events + [item]
        yield [item] + events
    yield events[::-1]
    yield tuple(events)
    yield events + events
    yield []
    if events and isinstance(events[0], tuple):
        yield [list(events[0])] + events[1:]
        yield [events[0] + (0,)] + events[1:]
        yield [events[0][:-1]] + events[1:]


def bent_rows(rows, chance):
    """Rows (state, height) with heights raised and lowered, and bent as lists are."""
    for _ in range(12):
        at = chance.randrange(len(rows))
        state, height = rows[at]
        for other in (height + 1, height - 1, height + 9, height - 9, None, str(height), bool(height)):
            yield rows[:at] + [(state, other)] + rows[at + 1:]
        yield rows[:at] + [(bent_state(state, chance), height)] + rows[at + 1:]
        yield rows + [(state, height - 1)]
        yield rows + [(bent_state(state, chance), height)]
    for change in (1, -1):
        yield [(state, height + change) for state, height in rows]
    yield [(state, 0) for state, _ in rows]
    yield [[state, height] for state, height in rows]
    yield [(list(state), height) for state, height in rows]
    yield dict(rows)
    yield from bent_lists(rows, chance, [None, (), (rows[0][0],)])


def bent_state(state, chance):
    """A state in which one part is another one."""
    at = chance.randrange(7)
    part = state[at]
    if isinstance(part, tuple):
        index = chance.randrange(len(part))
        one = part[index]
        part = part[:index] + (not one if isinstance(one, bool) else chance.choice((one + 1, one - 1, bool(one))),)
        part = part + state[at][index + 1:]
    else:
        part = not part if isinstance(part, bool) else chance.choice((part + 1, part - 1, bool(part)))
    return state[:at] + (part,) + state[at + 1:]


def bent_papers(town, paper, seed):
    """Papers that are bent in one place."""
    chance = random.Random(seed)
    events = all_events(town) + [("again", "x"), ("pay", "x", 1), ("pay", town.names()[0], 3), ("lose", 1), None]
    more = chance.sample(events, 6)
    for at, part in enumerate(paper):
        bent = []
        if isinstance(part, str):
            bent = ["most", "ring", "run", "never", "", part.upper(), None, 0]
        elif isinstance(part, int):
            bent = [part + 1, part - 1, part + 2, -part, True, False, None, str(part), (part,)]
        elif part and isinstance(part[0], tuple) and len(part[0]) == 2 and isinstance(part[0][0], tuple):
            bent = bent_rows(part, chance)
        elif part and isinstance(part[0], tuple) and len(part[0]) == 7:
            states = [bent_state(part[chance.randrange(len(part))], chance) for _ in range(8)]
            bent = itertools.chain(bent_lists(part, chance, states), [[list(state) for state in part]])
        else:
            bent = bent_lists(part, chance, more)
        for other in bent:
            yield paper[:at] + (other,) + paper[at + 1:]
    yield list(paper)
    yield paper[:-1]
    yield paper + (0,)
    yield paper + (copy.copy(paper[-1]),)
    yield (paper,)
