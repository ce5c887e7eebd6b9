"""Maps: areas of places that may be without their lines, and paths on which a buyer walks."""

from cutofftills.errors import BadMap, UnknownPlace
from cutofftills.words import is_integer, is_integer_to, is_list, is_name

MOST_AREAS = 4
MOST_PLACES = 6
TOP_LENGTH = 4
TOP_OUTAGE = 6


def is_outage(value):
    """Whether any value is an outage: None, without end, or for how many parts an area may be without its line."""
    return value is None or is_integer_to(value, TOP_OUTAGE)


def are_areas(value):
    """Whether any value is a list of lists of places, some in each of them."""
    if not is_list(value) or not 1 <= len(value) <= MOST_AREAS:
        return False
    if not all([is_list(area) and len(area) > 0 for area in value]):
        return False
    places = [place for area in value for place in area]
    if len(places) > MOST_PLACES or not all([is_name(place) for place in places]):
        return False
    return len({place: True for place in places}) == len(places)


def is_path(places, value):
    """Whether any value is a path between two of these places."""
    if not isinstance(value, tuple) or len(value) != 2 or not is_name(value[0]) or not is_name(value[1]):
        return False
    return value[0] in places and value[1] in places and value[0] < value[1]


def are_paths(places, value):
    """Whether any value is a list of paths between these places, no two alike."""
    if not is_list(value) or not all([is_path(places, path) for path in value]):
        return False
    return len({path: True for path in value}) == len(value)


def are_borders(many, length, value):
    """Whether any value is a list of parts of a day, one for each area."""
    return is_list(value) and len(value) == many and all([is_integer_to(border, length - 1) for border in value])


def are_outages(many, value):
    """Whether any value is a list of outages, one for each area."""
    return is_list(value) and len(value) == many and all([is_outage(outage) for outage in value])


def check_map(areas, paths, length, borders, outages):
    """Raises BadMap for the first of these that is no part of a map."""
    if not are_areas(areas):
        raise BadMap("areas")
    if not are_paths([place for area in areas for place in area], paths):
        raise BadMap("paths")
    if not is_integer(length) or not 1 <= length <= TOP_LENGTH:
        raise BadMap("length")
    if borders is not None and not are_borders(len(areas), length, borders):
        raise BadMap("borders")
    if outages is not None and not are_outages(len(areas), outages):
        raise BadMap("outages")


def ascending_paths(places, paths):
    """The ascending tuple of the paths; pairs are not sorted, as only strings are (L5)."""
    ordered = sorted([str(place) for place in places])
    return tuple([(one, other) for one in ordered for other in ordered if (one, other) in paths])


class Map:
    """Areas of places with paths between them; it never changes."""

    def __init__(self, areas, paths=(), *, length=1, borders=None, outages=None):
        check_map(areas, paths, length, borders, outages)
        many = len(areas)
        self.areas = tuple([tuple(area) for area in areas])
        self._area_of = {place: index for index, area in enumerate(areas) for place in area}
        self.paths = ascending_paths(list(self._area_of), paths)
        self.length = length
        self.borders = (0,) * many if borders is None else tuple(borders)
        self.outages = (1,) * many if outages is None else tuple(outages)

    def __eq__(self, other):
        return (isinstance(other, Map) and self.areas == other.areas and self.paths == other.paths
                and self.length == other.length and self.borders == other.borders
                and self.outages == other.outages)

    def __len__(self):
        return len(self._area_of)

    def __iter__(self):
        raise TypeError("a map cannot be iterated")

    def __contains__(self, x):
        return is_name(x) and x in self._area_of

    def places(self):
        """The places, by areas."""
        return list(self._area_of)

    def area_of(self, place):
        """The index of the area of a place."""
        if place not in self:
            raise UnknownPlace(place)
        return self._area_of[place]

    def near(self, place):
        """The places where a buyer may be one part later, in the order of places."""
        if place not in self:
            raise UnknownPlace(place)
        return [one for one in self._area_of
                if one == place or (one, place) in self.paths or (place, one) in self.paths]

    def walked(self, place):
        """The places to which walks lead from a place, in the order of places."""
        if place not in self:
            raise UnknownPlace(place)
        found = {place: True}
        trail = [place]
        while trail:
            here = trail.pop()
            for one in self.near(here):
                if one not in found:
                    found[one] = True
                    trail.append(one)
        return [one for one in self._area_of if one in found]

    def day(self, area, phase, time):
        """The day of an area in the part that begins at a time."""
        return (time + phase - self.borders[area]) // self.length

    def reach_of_time(self):
        """The greatest outage that has an end, 0 if there is none."""
        top = 0
        for outage in self.outages:
            if outage is not None and outage > top:
                top = outage
        return top

    def with_outages(self, outages):
        """The Map with other outages."""
        return Map(self.areas, self.paths, length=self.length, borders=self.borders, outages=outages)

    def with_borders(self, borders):
        """The Map with other borders."""
        return Map(self.areas, self.paths, length=self.length, borders=borders, outages=self.outages)
