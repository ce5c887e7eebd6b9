"""Maps: areas, places, paths, days, borders and outages."""

import itertools
import random
import unittest

from cutofftills.errors import BadMap, UnknownPlace
from cutofftills.maps import Map, is_outage
from odd import any_values, odd_values
from test_limits import Raising

AREAS = [["b", "a"], ["d"], ["c", "f"]]
CHART = Map(AREAS, [("b", "d"), ("a", "b"), ("c", "f")], length=3, borders=[0, 2, 1], outages=[2, None, 0])


class Outages(unittest.TestCase):
    def test_outages(self):
        self.assertEqual([is_outage(value) for value in [None, 0, 1, 6, 7, -1, True, False, "1", [1]]],
                         [True] * 4 + [False] * 6)
        self.assertIs(is_outage(value=6), True)
        for value in any_values():
            self.assertIs(is_outage(value), value is None or isinstance(value, int)
                          and not isinstance(value, bool) and 0 <= value <= 6)


class Class(Raising):
    def test_attributes(self):
        self.assertEqual((CHART.areas, CHART.paths, CHART.length, CHART.borders, CHART.outages), (
            (("b", "a"), ("d",), ("c", "f")), (("a", "b"), ("b", "d"), ("c", "f")), 3, (0, 2, 1), (2, None, 0)))
        chart = Map((("x",), ["y"]))
        self.assertEqual((chart.areas, chart.paths, chart.length, chart.borders, chart.outages), (
            (("x",), ("y",)), (), 1, (0, 0), (1, 1)))
        chart = Map(paths=(("x", "y"),), areas=[("x", "y")], outages=None, borders=None, length=4)
        self.assertEqual((chart.areas, chart.paths, chart.length, chart.borders, chart.outages), (
            (("x", "y"),), (("x", "y"),), 4, (0,), (1,)))

    def test_equal(self):
        parts = {"length": 3, "borders": [0, 2, 1], "outages": [2, None, 0]}
        paths = [("a", "b"), ("c", "f"), ("b", "d")]
        self.assertIs(Map(AREAS, paths, **parts) == CHART, True)
        self.assertIs(Map(AREAS, paths, **parts) != CHART, False)
        for other in [Map(AREAS[:2] + [["f", "c"]], paths, **parts), Map(AREAS, paths[:2], **parts),
                      Map(AREAS, paths, **{**parts, "length": 4}), Map(AREAS, paths, **{**parts, "borders": None}),
                      Map(AREAS, paths, **{**parts, "outages": [2, 6, 0]}), Map([AREAS[0] + AREAS[1], AREAS[2]], paths)]:
            self.assertIs(other == CHART, False)
        for value in any_values() + [AREAS, CHART.areas]:
            self.assertIs(CHART == value, False)
        self.assertEqual(Map([["a"]], outages=[1]), Map([["a"]]))

    def test_what_is_handed_in_is_not_kept(self):
        areas, paths, borders, outages = [["a"], ["b"]], [("a", "b")], [0, 0], [1, None]
        chart = Map(areas, paths, borders=borders, outages=outages)
        for value in (areas[0], areas, paths, borders, outages):
            value.clear()
        self.assertEqual(chart, Map([["a"], ["b"]], [("a", "b")], outages=[1, None]))

    def test_wrong_areas(self):
        for value in any_values() + [[], [[]], [["a"], []], [["a"], ["a"]], [["a", "a"]], [["A"]], [["abcdefghi"]],
                                     [["a"], ["b"], ["c"], ["d"], ["e"]], [list("abcdefg")], [list("abcd"), list("efg")],
                                     "ab", ["a", "b"], [{"a": 1}], [["a"], "b"], [["a", 1]]]:
            self.assert_raises(BadMap, "part", "areas", lambda: Map(value, None, length=None, borders=1, outages=1))
        for value in odd_values():
            for areas in ([value], [["a"], value], [["a", value]], [[value], ["a"]]):
                self.assert_raises(BadMap, "part", "areas", lambda: Map(areas))
        self.assertEqual(len(Map([["a"], ["b"], ["c"], ["d", "e", "abcdefgh"]])), 6)

    def test_wrong_paths(self):
        for value in any_values() + [[("b", "a")], [("a", "a")], [("a", "c")], [("A", "b")], [("aa", "b")],
                                     [("a", "b"), ("a", "b")], [["a", "b"]],
                                     ("a", "b"), [("a", "b", "c")], [("a",)], {("a", "b"): 1}]:
            if not (isinstance(value, (list, tuple)) and len(value) == 0):
                self.assert_raises(BadMap, "part", "paths",
                                   lambda: Map([["a", "b"]], value, length=None, borders=1, outages=1))
        for value in odd_values():
            for paths in ([value], [("a", "b"), value], [("a", value)], [(value, "b")]):
                self.assert_raises(BadMap, "part", "paths", lambda: Map([["a", "b"]], paths))

    def test_wrong_lengths(self):
        for value in odd_values() + [0, 5, -1, True, "1", [1], 10 ** 30]:
            self.assert_raises(BadMap, "part", "length", lambda: Map([["a"]], length=value, borders=1, outages=1))

    def test_wrong_borders(self):
        for value in odd_values()[1:] + [1, "00", [], [0], [0, 0, 0], [0, 2], [0, -1], [0, True], [None, 0], [0, "1"]]:
            self.assert_raises(BadMap, "part", "borders",
                               lambda: Map([["a"], ["b"]], length=2, borders=value, outages=1))
        self.assert_raises(BadMap, "part", "borders", lambda: Map([["a"]], borders=[1]))
        self.assertEqual(Map([["a"]], length=4, borders=(3,)).borders, (3,))

    def test_wrong_outages(self):
        for value in odd_values()[1:] + [1, "11", [], [1], [1, 1, 1], [1, 7], [-1, 1], [True, 1], [1, "1"]]:
            self.assert_raises(BadMap, "part", "outages", lambda: Map([["a"], ["b"]], outages=value))
        self.assertEqual(Map([["a"], ["b"]], outages=(None, 6)).outages, (None, 6))


class Places(Raising):
    def test_places(self):
        self.assertEqual(CHART.places(), ["b", "a", "d", "c", "f"])
        self.assertEqual(len(CHART), 5)
        CHART.places().clear()
        self.assertEqual(len(CHART.places()), 5)
        for value in any_values() + list("abcdef"):
            self.assertIs(value in CHART, isinstance(value, str) and value in list("abcdf"))

    def test_it_cannot_be_iterated(self):
        with self.assertRaises(TypeError):
            iter(CHART)
        with self.assertRaises(TypeError):
            list(CHART)

    def test_areas(self):
        self.assertEqual([CHART.area_of(place) for place in "badcf"], [0, 0, 1, 2, 2])
        self.assertEqual(CHART.area_of(place="d"), 1)

    def test_near(self):
        self.assertEqual([CHART.near(place) for place in "badcf"],
                         [["b", "a", "d"], ["b", "a"], ["b", "d"], ["c", "f"], ["c", "f"]])
        self.assertEqual(CHART.near(place="a"), ["b", "a"])
        self.assertEqual(Map([["a"], ["b"]]).near("b"), ["b"])

    def test_walked(self):
        self.assertEqual([CHART.walked(place) for place in "badcf"], [["b", "a", "d"]] * 3 + [["c", "f"]] * 2)
        self.assertEqual(CHART.walked(place="d"), ["b", "a", "d"])
        ring = Map([list("fbd"), list("ace")], [("a", "b"), ("b", "c"), ("c", "d"), ("d", "e"), ("e", "f")])
        for place in "abcdef":
            self.assertEqual(ring.walked(place), list("fbdace"))

    def test_walked_by_small_steps(self):
        chance = random.Random(2)
        for _ in range(60):
            names = chance.sample("abcdef", chance.randrange(1, 7))
            paths = [pair for pair in itertools.combinations(sorted(names), 2) if chance.random() < 0.25]
            chart = Map([names], paths)
            for place in names:
                found = {place}
                for _ in names:
                    found |= {one for here in found for one in chart.near(here)}
                self.assertEqual(chart.walked(place), [one for one in names if one in found])
                self.assertEqual(chart.near(place), [one for one in names
                                                     if one == place or tuple(sorted((one, place))) in paths])

    def test_unknown_places(self):
        for value in any_values() + ["e", "A", ("a",)]:
            if not (isinstance(value, str) and value in CHART):
                for call in (CHART.area_of, CHART.near, CHART.walked):
                    self.assert_raises(UnknownPlace, "place", value, lambda: call(value))

    def test_the_lists_are_new(self):
        CHART.near("b").clear()
        CHART.walked("b").clear()
        self.assertEqual((CHART.near("b"), CHART.walked("b")), (["b", "a", "d"], ["b", "a", "d"]))


class Days(Raising):
    def test_days(self):
        self.assertEqual([CHART.day(0, 0, time) for time in range(-4, 5)], [-2, -1, -1, -1, 0, 0, 0, 1, 1])
        self.assertEqual([CHART.day(1, 0, time) for time in range(-4, 5)], [-2, -2, -2, -1, -1, -1, 0, 0, 0])
        self.assertEqual([CHART.day(2, 1, time) for time in range(-4, 5)], [-2, -1, -1, -1, 0, 0, 0, 1, 1])
        self.assertEqual(CHART.day(time=7, phase=2, area=0), 3)
        self.assertEqual([Map([["a"]]).day(0, 0, time) for time in (-3, 0, 4)], [-3, 0, 4])

    def test_reach_of_time(self):
        self.assertEqual(CHART.reach_of_time(), 2)
        self.assertEqual([CHART.with_outages(outages).reach_of_time()
                          for outages in ([None] * 3, [0, None, 0], [6, 1, None], [1, 2, 3])], [0, 0, 6, 3])

    def test_other_outages_and_borders(self):
        self.assertEqual(CHART.with_outages([0, 6, None]), Map(AREAS, CHART.paths, length=3, borders=[0, 2, 1],
                                                               outages=[0, 6, None]))
        self.assertEqual(CHART.with_outages(outages=None).outages, (1, 1, 1))
        self.assertEqual(CHART.with_borders([2, 2, 0]), Map(AREAS, CHART.paths, length=3, borders=[2, 2, 0],
                                                            outages=[2, None, 0]))
        self.assertEqual(CHART.with_borders(borders=None).borders, (0, 0, 0))
        self.assertEqual(CHART.outages, (2, None, 0))
        for value in odd_values()[1:] + [[1, 1], [1, 1, 7], [True, 1, 1], 1]:
            self.assert_raises(BadMap, "part", "outages", lambda: CHART.with_outages(value))
        for value in odd_values()[1:] + [[0, 0], [0, 0, 3], [False, 0, 0], 0]:
            self.assert_raises(BadMap, "part", "borders", lambda: CHART.with_borders(value))


if __name__ == "__main__":
    unittest.main()
