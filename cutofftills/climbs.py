"""How much weight the steps between states come to: heights of states, or a step in a ring."""

from cutofftills.errors import BadEvent
from cutofftills.rounds import parts_of
from cutofftills.searches import Search, Web
from cutofftills.states import weight_of
from cutofftills.words import is_list


class Climb:
    """Reached states with the weights of their steps; what is topped up only ever gets less on the way."""

    def __init__(self, search, arcs):
        self.search = search
        # By the indexes of states, as lists of tuples (event, weight, index of the state behind).
        self.arcs = arcs
        parts = parts_of([[target for _, _, target in row] for row in self.arcs])
        self.rising = rising_arc(self.arcs, parts)
        # The greatest weight by which each state is reached, if there is a bound to it.
        self.heights = heights_of(self.arcs, parts) if self.rising is None else None


def town_climb(town, after_loss):
    """The Climb of a town, by all weights or by those after a loss alone."""
    web = Web(town)
    arcs = [arcs_of(state, rows, after_loss) for state, rows in zip(web.search.states, web.steps)]
    return Climb(web.search, arcs)


def arcs_of(state, rows, after_loss):
    """The steps of a state with their weights."""
    return [(event, weight_of(state, event, word, after_loss), target) for event, word, target in rows]


def climb_from(first, events, step):
    """The Climb of the states behind a first one; step(state, event) gives (state, word, weight) or None."""
    search = Search(first)
    arcs = []
    while len(arcs) < len(search.states):
        at = len(arcs)
        rows = [(event, step(search.states[at], event)) for event in events]
        arcs.append([(event, row[2], search.reach(row[0], at, event)) for event, row in rows if row is not None])
    return Climb(search, arcs)


def play_through(state, events, step):
    """The state behind a list of events, their words and weight; raises BadEvent where a step is None."""
    if not is_list(events):
        raise BadEvent(None)
    words = []
    total = 0
    for index, event in enumerate(events):
        row = step(state, event)
        if row is None:
            raise BadEvent(index)
        state, word, weight = row
        words.append(word)
        total = total + weight
    return state, words, total


def part_numbers(parts):
    """For each node the index of its part."""
    numbers = [0 for nodes in parts for _ in nodes]
    for number, nodes in enumerate(parts):
        for node in nodes:
            numbers[node] = number
    return numbers


def rising_arc(arcs, parts):
    """A step (node, event, target) with a weight above 0 within a part, or None."""
    numbers = part_numbers(parts)
    for node, row in enumerate(arcs):
        for event, weight, target in row:
            if weight > 0 and numbers[node] == numbers[target]:
                return node, event, target
    return None


def heights_of(arcs, parts):
    """For each node the greatest weight of the ways from node 0, if no ring has one above 0.

    Nothing is topped up in a ring, so all steps within a part have weight 0,
    and its nodes have one height.
    """
    numbers = part_numbers(parts)
    best = [None for _ in parts]
    best[numbers[0]] = 0
    for number, nodes in enumerate(parts):
        for node in nodes:
            for _, weight, target in arcs[node]:
                height = best[number] + weight
                later = numbers[target]
                if best[later] is None or best[later] < height:
                    best[later] = height
    return [best[number] for number in numbers]


def way_to(arcs, start, ends):
    """As few events as possible on the way from a node to one of those that ends tells by truths."""
    sources = {start: None}
    queue = [start]
    at = 0
    while not ends[queue[at]]:
        for event, _, target in arcs[queue[at]]:
            if target not in sources:
                sources[target] = (queue[at], event)
                queue.append(target)
        at += 1
    node = queue[at]
    events = []
    while sources[node] is not None:
        node, event = sources[node]
        events.append(event)
    return events[::-1]


def top_height(climb):
    """The greatest weight that is reached, if there is a bound to it."""
    return max([int(height) for height in climb.heights])


def highest_way(climb):
    """As few events as possible behind which the greatest weight is reached."""
    heights = climb.heights
    top = top_height(climb)
    # A way comes to the greatest weight only by steps that come to the height of each state on it.
    level = [[arc for arc in row if heights[node] + arc[1] == heights[arc[2]]]
             for node, row in enumerate(climb.arcs)]
    return way_to(level, 0, [height == top for height in heights])


def rising_ring(climb):
    """The events of a way to a ring with a weight above 0, and those of the ring."""
    node, event, target = climb.rising
    ends = [index == node for index in range(len(climb.arcs))]
    return climb.search.events_to(node), [event] + way_to(climb.arcs, target, ends)


def most_of(climb, money):
    """The greatest weight that is reached above the money, or None if there is no bound to it."""
    return None if climb.rising is not None else max(0, top_height(climb) - money)


def ways_of(climb, money):
    """Events behind which the most is reached and [], or those of a lead and a ring."""
    if climb.rising is not None:
        return rising_ring(climb)
    if top_height(climb) <= money:
        return [], []
    return highest_way(climb), []
