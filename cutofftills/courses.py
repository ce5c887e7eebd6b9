"""Courses: all that walks of a map can do within its outages.

A state is a place and the marks with which a buyer comes there. A lean course
leaves out what is never better: a buyer need not leave out a day in an area
that was paid already. The states of other courses are just those of the nodes
of papers.
"""

from cutofftills.counting import greatest_of, is_below_any
from cutofftills.errors import TooMany
from cutofftills.moves import with_item
from cutofftills.nodes import can_be_paid, days_that_go_on, first_marks, marks_behind, paid_marks

MOST_STATES = 20000


class Course:
    """The states of walks from time -D on; it never changes."""

    def __init__(self, chart, wanted, lean):
        self.chart = chart
        self.lean = lean
        # Areas in which nothing is wanted are as such that are never without a line.
        self.outages = tuple([outage if wants else 0 for outage, wants in zip(chart.outages, wanted)])
        self.time = chart.with_outages(self.outages).reach_of_time()
        self.nearby = {place: chart.near(place) for place in chart.places()}
        # For each phase a list of dicts, one for each time from -D to D - 1: from a state, a tuple
        # (place, marks), to its ways, tuples (area that is paid or None, marks behind it).
        self.layers = []
        room = MOST_STATES
        for phase in range(chart.length):
            layers = layers_of(self, phase, room)
            self.layers.append(layers)
            # A paper has the nodes of all phases; otherwise each phase is looked at by itself.
            if not lean:
                room = room - sum([len(layer) for layer in layers])

    def starts(self):
        """The states with which walks begin."""
        return [(place, first_marks(self.outages)) for place in self.chart.places()]


def layers_of(course, phase, room):
    """The layers of a phase; raises TooMany if there are more states than there is room for."""
    layers = []
    states = course.starts()
    for time in range(-course.time, course.time):
        room = room - len(states)
        if room < 0:
            raise TooMany(MOST_STATES)
        going = days_that_go_on(course.chart, phase, time)
        layer = {(place, marks): ways_of(course, phase, time, going, place, marks) for place, marks in states}
        layers.append(layer)
        states = states_behind(course, layer)
    return layers


def states_behind(course, layer):
    """The states to which the ways of a layer lead."""
    found = {}
    for (place, _), ways in layer.items():
        for _, behind in ways:
            for near in course.nearby[place]:
                found[(near, behind)] = True
    return list(found)


def ways_of(course, phase, time, going, place, marks):
    """The ways of a state: what a buyer may do at the place in the part that begins at a time."""
    area = course.chart.area_of(place)
    lefts, todays = marks
    unpaid = (None, behind_part(course, phase, time, going, marks))
    # Whatever is paid once more on a day tells nothing new.
    if todays[area] or not can_be_paid(course.outages, time, lefts, area):
        return [unpaid]
    paid = (area, behind_part(course, phase, time, going, paid_marks(course.outages, time, marks, area)))
    return [paid] if course.lean and lefts[area] is not None else [unpaid, paid]


def behind_part(course, phase, time, going, marks):
    """The marks behind a part in which just what is marked was paid."""
    behind = marks_behind(course.outages, time, going, marks)
    return tidied(course, phase, time + 1, behind) if course.lean else behind


def tidied(course, phase, time, marks):
    """The marks without what makes no difference.

    From time 0 on it is all one when an area is paid for the first time, and
    nothing is left where no further day can be paid.
    """
    lefts, todays = marks
    if time >= 0:
        lefts = tuple([outage - time if left is None else left for left, outage in zip(lefts, course.outages)])
    lefts = tuple([0 if today and is_last_day(course, phase, time, area, left) else left
                   for area, (left, today) in enumerate(zip(lefts, todays))])
    return lefts, tuple([today and left != 0 for left, today in zip(lefts, todays)])


def is_last_day(course, phase, time, area, left):
    """Whether the last part in which an area may be paid is on its day of a time."""
    if left == 0:
        return True
    return course.chart.day(area, phase, time) == course.chart.day(area, phase, time + left - 1)


def heights_of(course, phase, limits):
    """For each layer of a phase the dict from states to the most that can be paid from there on."""
    heights = []
    later = None
    for layer in course.layers[phase][::-1]:
        later = {state: height_of(course, limits, later, state[0], ways) for state, ways in layer.items()}
        heights.append(later)
    return heights[::-1]


def height_of(course, limits, later, place, ways):
    """The most that can be paid by some ways from a place on; later is None where nothing is paid behind them."""
    return max([int(height_by(course, limits, later, place, way)) for way in ways])


def height_by(course, limits, later, place, way):
    """The most that can be paid by a way from a place on."""
    area, behind = way
    units = 0 if area is None else limits[area]
    if later is None:
        return units
    return units + max([int(later[(near, behind)]) for near in course.nearby[place]])


def best_course(course, limits):
    """The most that can be paid, the phase of a walk on which it is, and its stops."""
    most, best_phase, stops = 0, 0, []
    for phase in range(course.chart.length):
        heights = heights_of(course, phase, limits)
        for state in course.starts():
            if len(heights) > 0 and heights[0][state] > most:
                most, best_phase, stops = heights[0][state], phase, stops_of(course, phase, limits, heights, state)
    return most, best_phase, stops


def stops_of(course, phase, limits, heights, state):
    """The stops of a walk from a state at time -D on which as much is paid as its height tells."""
    stops = []
    for at, layer in enumerate(course.layers[phase]):
        later = heights[at + 1] if at + 1 < len(heights) else None
        ways = [way for way in layer[state]
                if height_by(course, limits, later, state[0], way) == heights[at][state]]
        area, behind = ways[0]
        stops.append((state[0], area is not None))
        state = (highest_near(course, later, state[0], behind), behind)
    return stops


def highest_near(course, later, place, behind):
    """The place near a place from which on most can be paid with some marks."""
    best = place
    for near in course.nearby[place]:
        if later is not None and later[(near, behind)] > later[(best, behind)]:
            best = near
    return best


def counts_from(course, phase):
    """For each layer of a phase the dict from states to the greatest counts of what is paid from there on."""
    counts = []
    later = None
    for layer in course.layers[phase][::-1]:
        later = {state: greatest_of([row for way in ways for row in counts_by(course, later, state[0], way)])
                 for state, ways in layer.items()}
        counts.append(later)
    return counts[::-1]


def counts_by(course, later, place, way):
    """Counts of what is paid by a way from a place on, the greatest ones among them."""
    area, behind = way
    rows = [(0,) * len(course.outages)]
    if later is not None:
        rows = [row for near in course.nearby[place] for row in later[(near, behind)]]
    return rows if area is None else [with_item(row, area, row[area] + 1) for row in rows]


def stops_to(course, phase, counts, state, wanted):
    """The stops of a walk from a state at time -D whose count a count that is below one of the state's is below."""
    stops = []
    for at, layer in enumerate(course.layers[phase]):
        later = counts[at + 1] if at + 1 < len(counts) else None
        ways = [way for way in layer[state] if is_below_any(wanted, counts_by(course, later, state[0], way))]
        area, behind = ways[0]
        stops.append((state[0], area is not None))
        if area is not None:
            wanted = with_item(wanted, area, max(0, wanted[area] - 1))
        if later is not None:
            places = [near for near in course.nearby[state[0]] if is_below_any(wanted, later[(near, behind)])]
            state = (places[0], behind)
    return stops
