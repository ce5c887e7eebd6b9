"""What can be paid by limits for a day, and papers of it: walks, bounds by nodes, places without a bound."""

from cutofftills.courses import Course, best_course, heights_of
from cutofftills.errors import BadLimits, BadPart, BadWalk
from cutofftills.maps import Map
from cutofftills.nodes import can_be_paid, days_that_go_on, first_marks, marks_behind, paid_marks
from cutofftills.walks import Walk
from cutofftills.words import is_integer, is_integer_to, is_list, is_truth, is_word

TOP_LEFT = 6


def check_limits(many, limits):
    """Raises BadLimits for any value that is no list of limits, one for each of so many areas."""
    if not is_list(limits) or len(limits) != many:
        raise BadLimits(limits)
    if not all([is_integer(limit) and limit >= 0 for limit in limits]):
        raise BadLimits(limits)


def check_chart(chart, limits):
    """Raises BadPart or BadLimits if these are no Map and limits for its areas."""
    if not isinstance(chart, Map):
        raise BadPart("chart")
    check_limits(len(chart.areas), limits)


def is_endless(chart, limits, place):
    """Whether there is no bound to what can be paid at a place."""
    area = chart.area_of(place)
    return chart.outages[area] is None and limits[area] > 0


def endless_places(chart, limits):
    """The places at which there is no bound, in order."""
    return [place for place in chart.places() if is_endless(chart, limits, place)]


def wanted_course(chart, limits):
    """The lean Course of the areas in which something can be paid."""
    return Course(chart, tuple([limit > 0 for limit in limits]), True)


def most_by_days(chart, limits):
    """The most that can be paid, or None if there is no bound."""
    check_chart(chart, limits)
    if endless_places(chart, limits):
        return None
    return best_course(wanted_course(chart, limits), limits)[0]


def best_walk(chart, limits):
    """A Walk on which the most is paid, or None if there is no bound."""
    check_chart(chart, limits)
    if endless_places(chart, limits):
        return None
    course = wanted_course(chart, limits)
    _, phase, stops = best_course(course, limits)
    return Walk(chart, phase, -course.time, stops)


def units_of(walk, limits):
    """What is paid on a Walk."""
    if not isinstance(walk, Walk):
        raise BadPart("walk")
    check_limits(len(walk.chart.areas), limits)
    return sum([days * limit for days, limit in zip(walk.count(), limits)])


def never_more(chart, limits):
    """A paper that no more than the most can be paid, or of the first place at which there is no bound."""
    check_chart(chart, limits)
    places = endless_places(chart, limits)
    if places:
        return "endless", places[0]
    course = Course(chart, (True,) * len(chart.areas), False)
    rows = []
    most = 0
    for phase in range(chart.length):
        for at, heights in enumerate(heights_of(course, phase, limits)):
            for (place, marks), height in heights.items():
                rows.append(((phase, at - course.time, place, marks), height))
                most = max(most, int(height))
    return "never", most, rows


def as_much(chart, limits):
    """A paper of a walk on which the most is paid, or of the first place at which there is no bound."""
    walk = best_walk(chart, limits)
    if walk is None:
        return "endless", endless_places(chart, limits)[0]
    return "walk", units_of(walk, limits), walk.phase, walk.begin, list(walk.stops)


def lets_paid(chart, limits, value):
    """Whether any value is a paper of what can be paid by limits for a day."""
    check_chart(chart, limits)
    if not isinstance(value, tuple) or len(value) == 0:
        return False
    if is_word(value[0], "walk"):
        return len(value) == 5 and lets_walk(chart, limits, value[1], value[2:])
    if is_word(value[0], "endless"):
        return len(value) == 2 and value[1] in chart and is_endless(chart, limits, value[1])
    return is_word(value[0], "never") and len(value) == 3 and lets_never(chart, limits, value[1], value[2])


def lets_walk(chart, limits, units, parts):
    """Whether any values are those of a walk on which so much is paid."""
    phase, begin, stops = parts
    try:
        walk = Walk(chart, phase, begin, stops)
    except (BadPart, BadWalk):
        return False
    return is_integer(units) and units_of(walk, limits) >= units


def lets_never(chart, limits, units, rows):
    """Whether any values show that no more can be paid."""
    if not is_integer(units) or units < 0 or endless_places(chart, limits):
        return False
    heights = heights_told(chart, rows)
    if heights is None:
        return False
    time = chart.reach_of_time()
    marks = first_marks(chart.outages)
    starts = [(phase, -time, place, marks) for phase in range(chart.length) for place in chart.places() if time > 0]
    if not all([node in heights and heights[node] <= units for node in starts]):
        return False
    return are_heights(chart, limits, heights, starts)


def heights_told(chart, rows):
    """The dict from the nodes that are told to their heights, or None if any value is no list of such rows."""
    if not is_list(rows):
        return None
    heights = {}
    for row in rows:
        if not isinstance(row, tuple) or len(row) != 2 or not is_node(chart, row[0]) or row[0] in heights:
            return None
        node, height = row
        if not is_integer(height) or height < 0:
            return None
        heights[node] = height
    return heights


def is_node(chart, value):
    """Whether any value is a node by its form."""
    if not isinstance(value, tuple) or len(value) != 4:
        return False
    phase, time, place, marks = value
    if not is_integer_to(phase, chart.length - 1) or not is_integer(time) or place not in chart:
        return False
    top = chart.reach_of_time()
    return -top <= time < top and are_marks(len(chart.areas), marks)


def are_marks(many, value):
    """Whether any value is a tuple of what is left and what is paid today, for each of so many areas."""
    if not isinstance(value, tuple) or len(value) != 2:
        return False
    lefts, todays = value
    if not isinstance(lefts, tuple) or not isinstance(todays, tuple) or len(lefts) != many or len(todays) != many:
        return False
    return all([left is None or is_integer_to(left, TOP_LEFT) for left in lefts]) and all(
        [is_truth(today) for today in todays])


def are_heights(chart, limits, heights, starts):
    """Whether each node to which a walk comes from some nodes is told, with heights as they must be."""
    end = chart.reach_of_time()
    found = {node: True for node in starts}
    trail = list(starts)
    while trail:
        node = trail.pop()
        for units, behind in steps_of(chart, limits, node):
            height = 0
            if behind[1] < end:
                if behind not in heights:
                    return False
                height = heights[behind]
                if behind not in found:
                    found[behind] = True
                    trail.append(behind)
            if heights[node] < height + units:
                return False
    return True


def steps_of(chart, limits, node):
    """The list of tuples of what is paid and the node behind it, for all that a buyer can do."""
    phase, time, place, marks = node
    area = chart.area_of(place)
    going = days_that_go_on(chart, phase, time)
    ways = [(0, marks)]
    if can_be_paid(chart.outages, time, marks[0], area):
        ways.append((0 if marks[1][area] else limits[area], paid_marks(chart.outages, time, marks, area)))
    return [(units, (phase, time + 1, near, marks_behind(chart.outages, time, going, paid)))
            for units, paid in ways for near in chart.near(place)]
