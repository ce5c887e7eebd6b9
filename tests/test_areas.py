"""Areas that hear one another: joins and outages."""

import itertools
import random
import unittest

from cutofftills.areas import can_be_more, greatest_outages, joined, joined_limits, least_joins
from cutofftills.errors import BadLimits, BadPart, BadWish
from cutofftills.maps import Map
from cutofftills.walkpapers import most_by_days
from odd import any_values, odd_values
from plainwalks import plain_most, small_maps
from test_limits import Raising
from test_reach import HUGE

CHART = Map([["b"], ["a", "d"], ["c"]], [("a", "b"), ("b", "c")], length=3, borders=[0, 2, 1], outages=[None, 3, 2])
NO_PAIRS = [(0, 0), (1, 0), (0, 3), (-1, 0), (0,), (0, 1, 2), [0, 1], (False, True), (0, True), ("0", 1), (0, None)]
NO_WISHES = [-1, 10 ** 30 + 1, True, False, "1", [1], (1,)]


def plain_joined(chart, pairs):
    """The areas that are one, and the map of them, by putting all that pairs lead to together."""
    groups = [[area] for area in range(len(chart.areas))]
    for one, other in pairs:
        first = next(group for group in groups if one in group)
        second = next(group for group in groups if other in group)
        if first != second:
            groups = [group for group in groups if group not in (first, second)] + [sorted(first + second)]
    groups = sorted(groups)
    outages = [[chart.outages[area] for area in group if chart.outages[area] is not None] for group in groups]
    return groups, Map([[place for area in group for place in chart.areas[area]] for group in groups], chart.paths,
                       length=chart.length, borders=[chart.borders[group[0]] for group in groups],
                       outages=[min(row) if row else None for row in outages])


def keeps(most, wish):
    return most is not None and most <= wish


class Joined(Raising):
    def test_by_hand(self):
        self.assertEqual(joined(chart=CHART, pair=(0, 2)), Map(
            [["b", "c"], ["a", "d"]], [("a", "b"), ("b", "c")], length=3, borders=[0, 2], outages=[2, 3]))
        self.assertEqual(joined(CHART, (1, 2)), Map(
            [["b"], ["a", "d", "c"]], [("a", "b"), ("b", "c")], length=3, borders=[0, 2], outages=[None, 2]))
        self.assertEqual(joined(CHART.with_outages([None] * 3), (0, 1)).outages, (None, None))
        self.assertEqual(joined(CHART.with_outages([0, None, 1]), (0, 1)).outages, (0, 1))
        self.assertEqual(CHART.areas, (("b",), ("a", "d"), ("c",)))

    def test_limits(self):
        self.assertEqual(joined_limits(limits=[5, 3, 4], pair=(0, 2)), (4, 3))
        self.assertEqual(joined_limits((5, 3, 4), (1, 2)), (5, 3))
        self.assertEqual(joined_limits([5, 3, 4], (0, 1)), (3, 4))
        self.assertEqual(joined_limits([5, 10 ** 40, 4, 10 ** 50], (1, 3)), (5, 10 ** 40, 4))
        self.assertEqual(joined_limits([0, 7], (0, 1)), (0,))

    def test_wrong_values_in_order(self):
        for value in any_values() + [CHART.areas, Map]:
            self.assert_raises(BadPart, "part", "chart", lambda: joined(value, None))
        for value in any_values() + NO_PAIRS:
            self.assert_raises(BadPart, "part", "pair", lambda: joined(CHART, value))
        self.assert_raises(BadPart, "part", "pair", lambda: joined(Map([["a"]]), (0, 1)))

    def test_random_maps(self):
        for chart in small_maps(61, 60, areas=4):
            for pair in itertools.combinations(range(len(chart.areas)), 2):
                self.assertEqual(joined(chart, pair), plain_joined(chart, [pair])[1])


class More(Raising):
    def test_by_hand(self):
        even = Map([["a"], ["b"]], [("a", "b")], length=2, outages=[2, 2])
        self.assertIs(can_be_more(chart=even, limits=[1, 1], pair=(0, 1)), False)
        self.assertIs(can_be_more(Map([["a"], ["b"]], outages=[1, None]), [1, 1], (0, 1)), False)
        self.assertIs(can_be_more(HUGE.with_outages([0] * 4), [1] * 4, (0, 3)), False)

    def test_unlike_borders(self):
        chart = Map([["a"], ["b"], ["c"]], [("b", "c")], length=4, borders=[3, 2, 2], outages=[2, 3, 2])
        self.assertEqual((plain_most(chart, [3, 3, 1]), plain_most(joined(chart, (0, 2)), [1, 3])), (7, 8))
        self.assertIs(can_be_more(chart, [3, 3, 1], (0, 2)), True)
        self.assertIs(can_be_more(chart.with_borders([2, 2, 2]), [3, 3, 1], (0, 2)), False)

    def test_against_all_walks(self):
        chance = random.Random(62)
        charts = [chart for chart in small_maps(62, 200, parts=6) if len(chart.areas) > 1]
        for chart in charts:
            limits = [chance.choice((1, 1, 2, 5)) for _ in chart.areas]
            pair = chance.choice(list(itertools.combinations(range(len(chart.areas)), 2)))
            now = plain_most(chart, limits)
            then = plain_most(joined(chart, pair), joined_limits(limits, pair))
            told = can_be_more(chart, limits, pair)
            self.assertIs(told, now is not None and (then is None or then > now))
            if len(set(chart.borders)) == 1:
                self.assertIs(told, False)

    def test_wrong_values_in_order(self):
        for value in any_values() + [CHART.areas]:
            self.assert_raises(BadPart, "part", "chart", lambda: can_be_more(value, None, None))
        for value in any_values() + [[1, 2], [1, 2, -1], [1, 2, True], [1, 2, 3, 4]]:
            self.assert_raises(BadLimits, "limits", value, lambda: can_be_more(CHART, value, None))
        for value in any_values() + NO_PAIRS:
            self.assert_raises(BadPart, "part", "pair", lambda: can_be_more(CHART, [1, 2, 3], value))
        self.assert_raises(BadPart, "part", "pair", lambda: can_be_more(HUGE, [1] * 4, (0, 4)))


class Joins(Raising):
    def check(self, chart, limits, wish):
        pairs = list(itertools.combinations(range(len(chart.areas)), 2))
        kept = []
        for many in range(len(pairs) + 1):
            for choice in itertools.combinations(pairs, many):
                groups, other = plain_joined(chart, choice)
                least = [min(limits[area] for area in group) for group in groups]
                if keeps(plain_most(other, least), wish):
                    kept.append(choice)
        expected = [list(choice) for choice in kept
                    if not any(set(other) < set(choice) for other in kept)]
        told = least_joins(chart, limits, wish)
        self.assertEqual(told, expected)
        return len(told)

    def test_against_all_walks(self):
        chance = random.Random(63)
        found = []
        for chart in small_maps(63, 60, parts=4, areas=3):
            limits = [chance.choice((0, 1, 2, 5)) for _ in chart.areas]
            found.append(self.check(chart, limits, chance.choice((0, 1, 2, 3, 4, 6))))
        self.assertTrue({0, 1, 2} <= set(found), found)

    def test_four_areas(self):
        chance = random.Random(64)
        for chart in [chart for chart in small_maps(64, 60, parts=4, areas=4, endless=0.1) if len(chart.areas) == 4][:6]:
            limits = [chance.choice((1, 2, 5)) for _ in chart.areas]
            for wish in (1, 2, 3, 5):
                self.check(chart, limits, wish)

    def test_by_hand(self):
        chart = Map([["a"], ["b"], ["c"]], [("a", "b"), ("b", "c")], outages=[2, 2, 2])
        self.assertEqual(least_joins(chart=chart, limits=[1, 1, 1], wish=10 ** 30), [[]])
        self.assertEqual(least_joins(chart, [1, 1, 1], 2), [[(0, 1), (0, 2)], [(0, 1), (1, 2)], [(0, 2), (1, 2)]])
        self.assertEqual(least_joins(chart, [1, 1, 0], 2), [[(0, 1)], [(0, 2)], [(1, 2)]])
        self.assertEqual(least_joins(chart, [1, 1, 1], 1), [])
        self.assertEqual(least_joins(chart, [0, 1, 1], 0), [[(0, 1), (0, 2)], [(0, 1), (1, 2)], [(0, 2), (1, 2)]])
        self.assertEqual(least_joins(Map([["a"]], outages=[None]), [1], 5), [])
        self.assertEqual(least_joins(Map([["a"]], outages=[None]), [0], 0), [[]])

    def test_wrong_values_in_order(self):
        for call in (least_joins, greatest_outages):
            for value in any_values() + [CHART.areas]:
                self.assert_raises(BadPart, "part", "chart", lambda: call(value, None, None))
            for value in any_values() + [[1, 2], [1, 2, -1], [1, 2, True]]:
                self.assert_raises(BadLimits, "limits", value, lambda: call(CHART, value, None))
            for value in odd_values() + NO_WISHES:
                self.assert_raises(BadWish, "wish", value, lambda: call(CHART, [1, 2, 3], value))

    def test_the_lists_are_new(self):
        chart = Map([["a"], ["b"]], [("a", "b")], outages=[2, 2])
        for told in (least_joins(chart, [1, 1], 2), least_joins(chart, [1, 1], 2)):
            self.assertEqual(told, [[(0, 1)]])
            told[0].clear()
            told.clear()


class Greatest(Raising):
    def check(self, chart, limits, wish, most_of):
        expected = []
        for area, limit in enumerate(limits):
            outages = [chart.outages[:area] + (outage,) + chart.outages[area + 1:] for outage in range(7)]
            kept = [outage for outage, row in enumerate(outages) if keeps(most_of(chart.with_outages(row), limits), wish)]
            row = chart.outages[:area] + (None,) + chart.outages[area + 1:]
            if keeps(most_of(chart.with_outages(row), limits), wish):
                expected.append(("any",))
            else:
                expected.append(("most", max(kept)) if kept else ("none",))
        told = greatest_outages(chart, limits, wish)
        self.assertEqual(told, expected)
        return told

    def test_by_hand(self):
        chart = Map([["a"], ["b"]], [("a", "b")], outages=[2, 2])
        self.assertEqual(greatest_outages(chart=chart, limits=[1, 1], wish=4), [("most", 2), ("most", 2)])
        self.assertEqual(greatest_outages(chart, [1, 1], 5), [("most", 3), ("most", 3)])
        self.assertEqual(greatest_outages(chart, [1, 1], 2), [("most", 0), ("most", 0)])
        self.assertEqual(greatest_outages(chart, [1, 1], 1), [("none",), ("none",)])
        self.assertEqual(greatest_outages(chart, [1, 0], 2), [("most", 2), ("any",)])
        self.assertEqual(greatest_outages(chart, [0, 0], 0), [("any",), ("any",)])
        self.assertEqual(greatest_outages(chart.with_outages([None, 1]), [0, 10 ** 29], 10 ** 30),
                         [("any",), ("most", 6)])
        self.assertEqual(greatest_outages(chart.with_outages([None, 1]), [1, 1], 0), [("none",), ("none",)])

    def test_against_all_walks(self):
        chance = random.Random(65)
        for chart in [chart for chart in small_maps(65, 200, parts=4, areas=2) if len(chart) < 3][:12]:
            limits = [chance.choice((0, 1, 2)) for _ in chart.areas]
            self.check(chart, limits, chance.choice((0, 1, 3, 5, 9)), plain_most)

    def test_more_maps(self):
        chance = random.Random(66)
        seen = {}
        for chart in small_maps(66, 40, parts=6, areas=3, endless=0.1):
            limits = [chance.choice((0, 1, 2, 10 ** 29)) for _ in chart.areas]
            for told in self.check(chart, limits, chance.choice((0, 1, 3, 5, 9, 3 * 10 ** 29)), most_by_days):
                seen[told[0]] = True
        self.assertEqual(sorted(seen), ["any", "most", "none"])

    def test_too_many(self):
        self.assert_too_many(lambda: greatest_outages(HUGE, [1] * 4, 9))
        self.assert_too_many(lambda: least_joins(HUGE, [1] * 4, 9))
        self.assert_too_many(lambda: can_be_more(HUGE, [1] * 4, (0, 1)))


if __name__ == "__main__":
    unittest.main()
