"""Plain walks that follow the document word by word, by all that a buyer did, and searches that try all of them.

They share no code with the package but `Map`.
"""

import itertools
import random

from cutofftills.maps import Map


class PlainWalk:
    """A buyer who comes to a place at a time, with the parts of all payments."""

    def __init__(self, chart, phase, time, place, paid=()):
        self.chart = chart
        self.phase = phase
        self.time = time
        self.place = place
        self.paid = paid

    def area_of(self, place):
        return next(at for at, places in enumerate(self.chart.areas) if place in places)

    def parts(self, area):
        return [part for part, place in self.paid if self.area_of(place) == area]

    def day(self, area, part):
        shift = part + self.phase - self.chart.borders[area]
        return (shift - shift % self.chart.length) // self.chart.length

    def can_pay(self):
        area = self.area_of(self.place)
        outage = self.chart.outages[area]
        if outage is None:
            return True
        first = min(self.parts(area) + [self.time])
        return -outage <= self.time <= outage - 1 and self.time - first < outage

    def places_behind(self):
        return [place for places in self.chart.areas for place in places if place == self.place
                or (place, self.place) in self.chart.paths or (self.place, place) in self.chart.paths]

    def behind(self, pays):
        """The walks one part later."""
        paid = self.paid + ((self.time, self.place),) if pays else self.paid
        return [PlainWalk(self.chart, self.phase, self.time + 1, place, paid) for place in self.places_behind()]

    def ways(self):
        return [walk for pays in ((False, True) if self.can_pay() else (False,)) for walk in self.behind(pays)]

    def count(self):
        return tuple(len({self.day(area, part) for part in self.parts(area)})
                     for area in range(len(self.chart.areas)))

    def node(self):
        """The node of a paper: what is left in each area, and whether it is paid today."""
        lefts, todays = [], []
        for area, outage in enumerate(self.chart.outages):
            parts = self.parts(area)
            if outage in (None, 0):
                lefts.append(0)
                todays.append(False)
                continue
            if parts:
                lefts.append(max(0, min(parts[0] + outage, outage) - self.time))
            else:
                lefts.append(None if self.time < outage else 0)
            todays.append(self.day(area, self.time) in [self.day(area, part) for part in parts])
        return self.phase, self.time, self.place, (tuple(lefts), tuple(todays))

    def key(self):
        """All that matters for what can be ahead and for the count: first payments and days."""
        rows = []
        for area in range(len(self.chart.areas)):
            parts = self.parts(area)
            rows.append((min(parts) if parts else None, frozenset(self.day(area, part) for part in parts)))
        return self.phase, self.time, self.place, tuple(rows)


def reach_of_time(chart):
    return max([0] + [outage for outage in chart.outages if outage is not None])


def all_walks(chart, begin, end):
    """Walks of all phases and places from one time to another, one for each key, from the first time on."""
    rank = [PlainWalk(chart, phase, begin, place) for phase in range(chart.length)
            for places in chart.areas for place in places]
    rows = [rank]
    for _ in range(begin, end):
        found = {}
        for walk in rank:
            for behind in walk.ways():
                found.setdefault(behind.key(), behind)
        rank = list(found.values())
        rows.append(rank)
    return rows


def all_counts(chart, begin=None, end=None):
    """The counts of all walks between two times, -D and D if none are given."""
    time = reach_of_time(chart)
    rows = all_walks(chart, -time if begin is None else begin, time if end is None else end)
    return {walk.count() for walk in rows[-1]}


def plain_worth(count, limits):
    return sum(days * limit for days, limit in zip(count, limits))


def plain_most(chart, limits):
    """The most that can be paid, or None: by trying all walks."""
    if any(outage is None and limit for outage, limit in zip(chart.outages, limits)):
        return None
    return max(plain_worth(count, limits) for count in all_counts(chart))


def plain_heights(chart, limits):
    """The dict from the nodes to which walks come ahead of time D to the most that can be paid from there on."""
    time = reach_of_time(chart)
    heights = {}
    for rank in all_walks(chart, -time, time)[:-1][::-1]:
        for walk in rank:
            best = 0
            for behind in walk.ways():
                paid = plain_worth(behind.count(), limits) - plain_worth(walk.count(), limits)
                best = max(best, paid + heights.get(behind.node(), 0))
            assert heights.setdefault(walk.node(), best) == best
    return heights


def small_maps(seed, many, parts=4, endless=0.2, areas=3):
    """Random maps with few walks."""
    chance = random.Random(seed)
    for _ in range(many):
        top = chance.randrange(1, areas + 1)
        names = chance.sample("abcdef", chance.randrange(top, 5 if top < 4 else 6))
        rows = [[name] for name in names[:top]]
        for name in names[top:]:
            rows[chance.randrange(top)].append(name)
        paths = [pair for pair in itertools.combinations(sorted(names), 2) if chance.random() < 0.6]
        length = chance.randrange(1, 5)
        outages = [None if chance.random() < endless else chance.randrange(parts // 2 + 1) for _ in rows]
        yield Map(rows, paths, length=length, borders=[chance.randrange(length) for _ in rows], outages=outages)


def random_walk(chart, chance, longest, eager=0.6):
    """(phase, begin, stops) of a walk, and the PlainWalk behind it; eager says how often it pays if it can."""
    places = [place for area in chart.areas for place in area]
    walk = PlainWalk(chart, chance.randrange(chart.length), chance.randrange(-7, 3), chance.choice(places))
    phase, begin, stops = walk.phase, walk.time, []
    for _ in range(chance.randrange(longest + 1)):
        pays = walk.can_pay() and chance.random() < eager
        stops.append((walk.place, pays))
        walk = chance.choice(walk.behind(pays))
    return phase, begin, stops, walk
