"""Walks of a buyer over a map, and their counts."""

from cutofftills.errors import BadPart, BadWalk
from cutofftills.maps import Map
from cutofftills.words import is_integer, is_integer_to, is_list, is_truth

FARTHEST_BEGIN = 12


class Walk:
    """Where a buyer is in each part from begin on, and where the card pays; it never changes."""

    def __init__(self, chart, phase, begin, stops):
        if not isinstance(chart, Map):
            raise BadPart("chart")
        if not is_integer_to(phase, chart.length - 1):
            raise BadPart("phase")
        if not is_integer(begin) or not -FARTHEST_BEGIN <= begin <= FARTHEST_BEGIN:
            raise BadPart("begin")
        check_stops(chart, begin, stops)
        self.chart = chart
        self.phase = phase
        self.begin = begin
        self.stops = tuple(stops)
        self._counts = counts_of(chart, phase, begin, self.stops)

    def __eq__(self, other):
        return (isinstance(other, Walk) and self.chart == other.chart and self.phase == other.phase
                and self.begin == other.begin and self.stops == other.stops)

    def __len__(self):
        return len(self.stops)

    def times(self, area):
        """The ascending list of the parts in which it pays in an area."""
        return [self.begin + index for index, (place, pays) in enumerate(self.stops)
                if pays and self.chart.area_of(place) == area]

    def count(self):
        """For each area on how many of its days the walk pays there."""
        return self._counts[-1]

    def counts(self):
        """The counts behind none of the stops, behind the first one, and so on."""
        for told in self._counts:
            yield told


def check_stops(chart, begin, stops):
    """Raises BadWalk for any value that is no list of stops of a walk, with the index of the first wrong one."""
    if not is_list(stops):
        raise BadWalk(None)
    since = {}
    for index, stop in enumerate(stops):
        if not is_stop(chart, stop) or (index > 0 and stop[0] not in chart.near(stops[index - 1][0])):
            raise BadWalk(index)
        place, pays = stop
        area = chart.area_of(place)
        if pays:
            if area not in since:
                since[area] = begin + index
            if not can_pay(chart.outages[area], begin + index, since[area]):
                raise BadWalk(index)


def is_stop(chart, value):
    """Whether any value is a stop: a tuple of a place and a truth."""
    return isinstance(value, tuple) and len(value) == 2 and value[0] in chart and is_truth(value[1])


def can_pay(outage, time, first):
    """Whether a payment of a part can be in an area with an outage that was first paid in another part."""
    return outage is None or (-outage <= time < outage and time - first < outage)


def counts_of(chart, phase, begin, stops):
    """The tuple of the counts behind none of the stops, behind the first one, and so on."""
    days = [{} for _ in chart.areas]
    told = [tuple([len(row) for row in days])]
    for index, (place, pays) in enumerate(stops):
        if pays:
            area = chart.area_of(place)
            days[area][chart.day(area, phase, begin + index)] = True
        told.append(tuple([len(row) for row in days]))
    return tuple(told)
