"""Counts of walks, and the reach of a map: all counts that walks come to."""

from cutofftills.counting import greatest_of, is_at_most, is_below_any
from cutofftills.courses import Course, counts_from, stops_to
from cutofftills.errors import BadCount, BadPart
from cutofftills.maps import MOST_AREAS, Map
from cutofftills.walks import Walk
from cutofftills.words import is_integer, is_integer_to, is_list

# 10 ** 29.
TOP_COUNT = 100_000_000_000_000_000_000_000_000_000
TOP_WANTED = 20


def is_count(value, many):
    """Whether any value is a count of so many areas."""
    if not isinstance(value, tuple) or len(value) != many:
        return False
    return all([days is None or is_integer_to(days, TOP_COUNT) for days in value])


def is_below(one, other):
    """Whether one count is below another one."""
    return is_at_most(one, other)


class Reach:
    """All counts that are below one of some counts; it never changes."""

    def __init__(self, many, counts):
        if not is_integer(many) or not 1 <= many <= MOST_AREAS:
            raise BadPart("many")
        if not is_list(counts):
            raise BadCount(None)
        for index, count in enumerate(counts):
            if not is_count(count, many):
                raise BadCount(index)
        self.size = many
        self.peaks = tuple(greatest_of([(0,) * many] + list(counts)))

    def __len__(self):
        return len(self.peaks)

    def __iter__(self):
        return iter(self.peaks)

    def __contains__(self, x):
        return is_count(x, self.size) and is_below_any(x, self.peaks)

    def __eq__(self, other):
        return isinstance(other, Reach) and self.peaks == other.peaks

    def __le__(self, other):
        if not is_reach(other, self.size):
            raise BadPart("other")
        return all([is_below_any(peak, other.peaks) for peak in self.peaks])

    def __or__(self, other):
        if not is_reach(other, self.size):
            raise BadPart("other")
        return Reach(self.size, self.peaks + other.peaks)

    def __and__(self, other):
        if not is_reach(other, self.size):
            raise BadPart("other")
        return Reach(self.size, [lesser_of(peak, top) for peak in self.peaks for top in other.peaks])


def is_reach(value, many):
    """Whether any value is a Reach of so many areas."""
    return isinstance(value, Reach) and value.size == many


def lesser_of(one, other):
    """The greatest count that is below both of two counts."""
    return tuple([top if days is None or (top is not None and top < days) else days
                  for days, top in zip(one, other)])


def reach_of(chart):
    """The reach of a map."""
    if not isinstance(chart, Map):
        raise BadPart("chart")
    course = Course(chart, (True,) * len(chart.areas), True)
    rows = []
    for phase in range(chart.length):
        counts = counts_from(course, phase)
        for state in course.starts():
            endless = endless_areas(chart, state[0])
            # Without layers nothing is paid but in areas without end.
            found = counts[0][state] if len(counts) > 0 else [(0,) * len(chart.areas)]
            rows.extend([tuple([None if area in endless else days for area, days in enumerate(row)]) for row in found])
    return Reach(len(chart.areas), greatest_of(rows))


def endless_areas(chart, place):
    """The dict of the areas whose outage has no end and to which walks lead from a place."""
    areas = [chart.area_of(one) for one in chart.walked(place)]
    return {area: True for area in areas if chart.outages[area] is None}


def walk_to(chart, count):
    """A Walk whose count a count without None is below, or None if there is none."""
    if not isinstance(chart, Map):
        raise BadPart("chart")
    many = len(chart.areas)
    if not is_count(count, many) or not all([is_integer_to(days, TOP_WANTED) for days in count]):
        raise BadCount(count)
    course = Course(chart, tuple([days > 0 for days in count]), True)
    within = tuple([0 if outage is None else days for outage, days in zip(chart.outages, count)])
    beyond = [area for area in range(many) if count[area] > within[area]]
    for phase in range(chart.length):
        counts = counts_from(course, phase)
        for state in course.starts():
            endless = endless_areas(chart, state[0])
            found = counts[0][state] if len(counts) > 0 else [(0,) * many]
            if all([area in endless for area in beyond]) and is_below_any(within, found):
                stops = stops_to(course, phase, counts, state, within)
                return Walk(chart, phase, -course.time, with_stays(chart, phase, -course.time, state[0], stops, count))
    return None


def with_stays(chart, phase, begin, place, stops, count):
    """Some stops, or none at a place, and then stays in the areas without end until they are paid as counted."""
    for area, days in enumerate(count):
        if chart.outages[area] is None and days > 0:
            place = stops[-1][0] if stops else place
            path = path_to(chart, place, area)
            stops = stops + [(one, False) for one in path]
            first = chart.day(area, phase, begin + len(stops))
            while chart.day(area, phase, begin + len(stops)) < first + days:
                stops = stops + [(path[-1], True)]
    return stops


def path_to(chart, place, area):
    """The places of a walk from a place to one of an area to which walks lead."""
    paths = {place: [place]}
    queue = [place]
    at = 0
    here = place
    while chart.area_of(here) != area:
        for near in chart.near(here):
            if near not in paths:
                paths[near] = paths[here] + [near]
                queue.append(near)
        at += 1
        here = queue[at]
    return paths[here]
