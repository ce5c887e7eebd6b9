"""Walks: what they are, and their counts."""

import random
import types
import unittest

from cutofftills.errors import BadPart, BadWalk
from cutofftills.maps import Map
from cutofftills.walks import Walk
from odd import any_values, odd_values
from plainwalks import PlainWalk, random_walk, small_maps
from test_limits import Raising

CHART = Map([["a", "b"], ["c"], ["d"]], [("a", "b"), ("b", "c"), ("c", "d")], length=2, borders=[0, 1, 0],
            outages=[2, None, 0])
STOPS = [("a", True), ("a", False), ("b", True), ("c", True), ("c", True), ("d", False)]


class Class(Raising):
    def test_attributes(self):
        walk = Walk(CHART, 1, -1, STOPS[2:])
        self.assertEqual((walk.chart, walk.phase, walk.begin, walk.stops, len(walk)), (
            CHART, 1, -1, tuple(STOPS[2:]), 4))
        walk = Walk(stops=(), begin=12, phase=0, chart=CHART)
        self.assertEqual((walk.stops, len(walk), walk.begin), ((), 0, 12))

    def test_equal(self):
        walk = Walk(CHART, 1, -1, STOPS[2:])
        other = Map([["a", "b"], ["c"], ["d"]], [("a", "b"), ("b", "c"), ("c", "d")], length=2, borders=[0, 1, 0],
                    outages=[2, None, 0])
        self.assertIs(walk == Walk(other, 1, -1, tuple(STOPS[2:])), True)
        self.assertIs(walk != Walk(other, 1, -1, STOPS[2:]), False)
        for one in [Walk(CHART, 0, -1, STOPS[2:]), Walk(CHART, 1, 0, STOPS[2:]), Walk(CHART, 1, -1, STOPS[2:5]),
                    Walk(CHART.with_outages([2, None, 1]), 1, -1, STOPS[2:])]:
            self.assertIs(walk == one, False)
        for value in any_values() + [walk.stops, CHART]:
            self.assertIs(walk == value, False)

    def test_wrong_values_in_order(self):
        for value in any_values() + [CHART.areas, Map]:
            self.assert_raises(BadPart, "part", "chart", lambda: Walk(value, None, None, None))
        for value in odd_values() + [2, -1, True, False, "0", [0]]:
            self.assert_raises(BadPart, "part", "phase", lambda: Walk(CHART, value, None, None))
        for value in odd_values() + [13, -13, True, "0", (0,)]:
            self.assert_raises(BadPart, "part", "begin", lambda: Walk(CHART, 1, value, None))
        for value in odd_values() + [1, "", True]:
            self.assert_raises(BadWalk, "index", None, lambda: Walk(CHART, 1, 0, value))
        self.assertEqual([Walk(CHART, 0, begin, []).begin for begin in (-12, 12)], [-12, 12])

    def test_what_is_no_stop(self):
        for value in any_values() + [("e", True), ("a", 1), ("a", None), ["a", True], ("a",), ("a", True, True),
                                     ("A", False), (True, "a")]:
            self.assert_raises(BadWalk, "index", 0, lambda: Walk(CHART, 0, 0, [value, None]))
            self.assert_raises(BadWalk, "index", 2, lambda: Walk(CHART, 0, 0, (("a", True), ("a", False), value)))
        for value in odd_values():
            self.assert_raises(BadWalk, "index", 0, lambda: Walk(CHART, 0, 0, [("a", value)]))
            self.assert_raises(BadWalk, "index", 0, lambda: Walk(CHART, 0, 0, [(value, True)]))

    def test_what_is_not_near(self):
        for stops, index in [([("a", False), ("c", False)], 1), ([("b", False), ("c", False), ("a", False)], 2),
                             ([("a", False), ("d", True)], 1), ([("a", False), ("b", False), ("d", False)], 2)]:
            self.assert_raises(BadWalk, "index", index, lambda: Walk(CHART, 0, 0, stops))

    def test_where_it_cannot_pay(self):
        # Outage 2: in the parts -2 to 1, and less than 2 parts behind the first one.
        for begin, index in [(-3, 0), (-4, 0), (2, 0), (12, 0), (-2, 2), (-1, 2), (0, 2), (1, 1)]:
            self.assert_raises(BadWalk, "index", index, lambda: Walk(CHART, 0, begin, [("a", True), ("b", True)] * 3))
        for begin in (-2, -1, 0):
            self.assertEqual(Walk(CHART, 0, begin, [("a", True), ("b", True), ("b", False)]).begin, begin)
        self.assert_raises(BadWalk, "index", 3, lambda: Walk(CHART, 0, -2, [("a", False), ("a", True), ("a", True),
                                                                            ("b", True)]))
        # None: always; 0: never.
        self.assertEqual(Walk(CHART, 0, -12, [("c", True)] * 40).count(), (0, 21, 0))
        for begin in range(-12, 13):
            self.assert_raises(BadWalk, "index", 1, lambda: Walk(CHART, 0, begin, [("d", False), ("d", True)]))

    def test_what_is_handed_in_is_not_kept(self):
        stops = [("a", True)]
        walk = Walk(CHART, 0, 0, stops)
        stops.append(("d", None))
        self.assertEqual(walk.stops, (("a", True),))


class Counts(Raising):
    def test_by_hand(self):
        walk = Walk(CHART, 0, -2, STOPS[:2] + STOPS[3:3] + [("b", False)] + STOPS[3:])
        self.assertEqual([walk.times(area) for area in range(3)], [[-2], [1, 2], []])
        self.assertEqual(walk.count(), (1, 1, 0))
        self.assertEqual(list(walk.counts()), [(0, 0, 0), (1, 0, 0), (1, 0, 0), (1, 0, 0), (1, 1, 0), (1, 1, 0),
                                               (1, 1, 0)])
        walk = Walk(CHART, 1, -2, walk.stops)
        self.assertEqual(walk.count(), (1, 2, 0))
        self.assertEqual(Walk(CHART, 1, -2, [("a", True), ("a", True)]).count(), (2, 0, 0))
        self.assertEqual(Walk(CHART, 0, -2, [("a", True), ("a", True)]).count(), (1, 0, 0))
        self.assertEqual(walk.times(area=1), [1, 2])

    def test_counts_is_a_generator(self):
        walk = Walk(CHART, 0, 0, [("a", True)])
        told = walk.counts()
        self.assertIsInstance(told, types.GeneratorType)
        self.assertEqual([next(told), next(told)], [(0, 0, 0), (1, 0, 0)])
        with self.assertRaises(StopIteration):
            next(told)
        self.assertEqual(list(Walk(CHART, 0, 0, []).counts()), [(0, 0, 0)])
        self.assertEqual(Walk(CHART, 0, 0, []).count(), (0, 0, 0))
        walk.times(0).clear()
        self.assertEqual(walk.times(0), [0])

    def test_random_walks(self):
        chance = random.Random(21)
        for chart in small_maps(21, 300, parts=12, areas=4):
            phase, begin, stops, plain = random_walk(chart, chance, 30)
            walk = Walk(chart, phase, begin, stops)
            self.assertEqual((walk.count(), walk.count()), (plain.count(), list(walk.counts())[-1]))
            self.assertEqual([walk.times(area) for area in range(len(chart.areas))],
                             [plain.parts(area) for area in range(len(chart.areas))])
            for index, told in enumerate(walk.counts()):
                self.assertEqual(Walk(chart, phase, begin, stops[:index]).count(), told)

    def test_random_walks_that_are_none(self):
        chance = random.Random(22)
        seen = {True: 0, False: 0}
        for chart in small_maps(22, 300, parts=8, areas=4):
            phase, begin, stops, _ = random_walk(chart, chance, 12, eager=0.9)
            places = chart.places()
            stops = [(chance.choice(places) if chance.random() < 0.05 else place, pays or chance.random() < 0.1)
                     for place, pays in stops]
            wrong = plain_wrong(chart, phase, begin, stops)
            seen[wrong is None] += 1
            if wrong is None:
                self.assertEqual(len(Walk(chart, phase, begin, stops)), len(stops))
            else:
                self.assert_raises(BadWalk, "index", wrong, lambda: Walk(chart, phase, begin, stops))
        self.assertGreater(min(seen.values()), 60)


def plain_wrong(chart, phase, begin, stops):
    """The index of the first stop that cannot be, or None."""
    walks = [PlainWalk(chart, phase, begin, place) for place in chart.places()]
    for index, (place, pays) in enumerate(stops):
        here = [walk for walk in walks if walk.place == place]
        if not here or pays and not here[0].can_pay():
            return index
        walks = here[0].behind(pays)
    return None


if __name__ == "__main__":
    unittest.main()
