"""Counts, reaches, and walks to counts."""

import random
import unittest

from cutofftills.errors import BadCount, BadPart, TooMany
from cutofftills.maps import Map
from cutofftills.reach import Reach, is_below, is_count, reach_of, walk_to
from cutofftills.walks import Walk
from odd import any_values, odd_values
from plainwalks import all_counts, small_maps
from test_limits import Raising

TOP = 10 ** 29
HUGE = Map([["a"], ["b"], ["c"], ["d", "e", "f"]],
           [(one, other) for one in "abcdef" for other in "abcdef" if one < other], length=4, outages=[6] * 4)


def plain_below(one, other):
    return all(top is None or days is not None and days <= top for days, top in zip(one, other))


def plain_peaks(rows):
    found = [row for row in set(rows) if not any(row != other and plain_below(row, other) for other in rows)]
    return tuple(sorted(found, key=lambda row: [(days is None, days or 0) for days in row]))


def random_counts(chance, many, top=6, none=0.2, most=7):
    return [tuple(None if chance.random() < none else chance.randrange(top) for _ in range(many))
            for _ in range(chance.randrange(most))]


class Counts(Raising):
    def test_counts(self):
        for value, many, expected in [((), 0, True), ((1,), 1, True), ((TOP, None), 2, True), ((TOP + 1,), 1, False),
                                      ((-1,), 1, False), ((True,), 1, False), ([1], 1, False), ((1,), 2, False),
                                      ((1, "1"), 2, False), ((0, 0, 0, 0), 4, True), (None, 1, False)]:
            self.assertIs(is_count(value, many), expected)
        self.assertIs(is_count(many=2, value=(0, None)), True)
        for value in any_values():
            self.assertIs(is_count(value, 5), False)
            self.assertIs(is_count((value,), 1), value is None or isinstance(value, int)
                          and not isinstance(value, bool) and 0 <= value <= TOP)

    def test_below(self):
        for one, other, expected in [((1, 2), (1, 2), True), ((1, 2), (1, 1), False), ((1, 2), (None, None), True),
                                     ((None, 0), (None, 0), True), ((None, 0), (TOP, 0), False),
                                     ((TOP,), (None,), True), ((0, 3), (3, 0), False), ((3, 0), (0, 3), False)]:
            self.assertIs(is_below(one, other), expected)
        self.assertIs(is_below(other=(1,), one=(0,)), True)


class Class(Raising):
    def test_peaks(self):
        reach = Reach(2, [(1, 2), (2, 1), (1, 1), (0, None), (1, 2)])
        self.assertEqual((reach.size, reach.peaks, len(reach)), (2, ((0, None), (1, 2), (2, 1)), 3))
        self.assertEqual(list(reach), [(0, None), (1, 2), (2, 1)])
        self.assertEqual([count for count in reach], list(reach.peaks))
        self.assertEqual(Reach(3, []).peaks, ((0, 0, 0),))
        self.assertEqual(Reach(counts=((None, 1), (2, None), (2, 5)), many=2).peaks, ((2, None), (None, 1)))
        self.assertEqual(Reach(1, [(TOP,)]).peaks, ((TOP,),))
        self.assertEqual(Reach(2, [(0, 1), (None, 0)]).peaks, ((0, 1), (None, 0)))

    def test_wrong_values(self):
        for value in odd_values() + [0, 5, True, "1", (1,), -1]:
            self.assert_raises(BadPart, "part", "many", lambda: Reach(value, None))
        for value in odd_values() + [1, "", True]:
            self.assert_raises(BadCount, "index", None, lambda: Reach(1, value))
        for value in any_values() + [(1,), (1, 2, 3), (1, -1), (1, TOP + 1), (True, 1), [1, 1]]:
            if not is_count(value, 2):
                self.assert_raises(BadCount, "index", 0, lambda: Reach(2, [value, None]))
                self.assert_raises(BadCount, "index", 1, lambda: Reach(2, ((0, 0), value)))

    def test_what_is_handed_in_stays(self):
        counts = [(1, 1), (0, 0)]
        reach = Reach(2, counts)
        self.assertEqual(counts, [(1, 1), (0, 0)])
        counts.append((9, 9))
        self.assertEqual(reach.peaks, ((1, 1),))

    def test_equal(self):
        self.assertIs(Reach(2, [(1, 2), (2, 1)]) == Reach(2, [(2, 1), (1, 2), (0, 2)]), True)
        self.assertIs(Reach(2, [(1, 2), (2, 1)]) != Reach(2, [(2, 1), (1, 2), (0, 2)]), False)
        self.assertIs(Reach(2, [(1, 2)]) == Reach(2, [(1, 3)]), False)
        self.assertIs(Reach(2, []) == Reach(1, []), False)
        for value in any_values() + [((0, 0),), [(0, 0)]]:
            self.assertIs(Reach(2, []) == value, False)

    def test_in(self):
        reach = Reach(2, [(1, 2), (3, 0), (0, None)])
        for count, expected in [((1, 2), True), ((0, 0), True), ((3, 0), True), ((2, 1), False), ((0, TOP), True),
                                ((0, None), True), ((1, None), False), ((0, TOP + 1), False), ((0,), False),
                                ([1, 2], False), ((True, 0), False), ((-1, 0), False)]:
            self.assertIs(count in reach, expected)
        for value in any_values():
            self.assertIs(value in reach, False)

    def test_orders_and_parts(self):
        one, other = Reach(2, [(1, 2), (3, 0)]), Reach(2, [(2, 1), (1, None)])
        self.assertEqual((one | other).peaks, ((1, None), (2, 1), (3, 0)))
        self.assertEqual((one & other).peaks, ((1, 2), (2, 0)))
        self.assertIs(one <= other, False)
        self.assertIs(other <= one, False)
        self.assertIs(one <= (one | other), True)
        self.assertIs((one & other) <= one, True)
        self.assertIs(one <= one, True)
        self.assertEqual((one.peaks, other.peaks), (((1, 2), (3, 0)), ((1, None), (2, 1))))

    def test_parts_of_other_kinds(self):
        one = Reach(2, [(1, 2)])
        for value in any_values() + [Reach(1, []), Reach(3, []), ((1, 2),), Reach]:
            for call in (lambda: one <= value, lambda: one | value, lambda: one & value):
                self.assert_raises(BadPart, "part", "other", call)

    def test_random_reaches(self):
        chance = random.Random(31)
        for _ in range(300):
            many = chance.randrange(1, 5)
            rows, others = random_counts(chance, many), random_counts(chance, many)
            one, other = Reach(many, rows), Reach(many, others)
            zeros = (0,) * many
            self.assertEqual(one.peaks, plain_peaks(rows + [zeros]))
            self.assertEqual((one | other).peaks, plain_peaks(rows + others + [zeros]))
            for _ in range(30):
                count = tuple(None if chance.random() < 0.1 else chance.randrange(7) for _ in range(many))
                within = [any(plain_below(count, row) for row in part + [zeros]) for part in (rows, others)]
                self.assertIs(count in one, within[0])
                self.assertIs(count in (one & other), all(within))
                self.assertIs(count in (one | other), any(within))
            self.assertIs(one <= other, all(any(plain_below(row, top) for top in others + [zeros]) for row in rows))

    def test_many_counts(self):
        chance = random.Random(32)
        rows = [tuple(chance.randrange(TOP) for _ in range(3)) for _ in range(200)]
        others = [tuple(chance.randrange(TOP) for _ in range(3)) for _ in range(200)]
        one, other = Reach(3, rows), Reach(3, others)
        self.assertEqual(one.peaks, plain_peaks(rows))
        self.assertIs((one & other) <= one, True)
        self.assertIs(one <= (one | other), True)


class Maps(Raising):
    def test_by_hand(self):
        self.assertEqual(reach_of(chart=Map([["a"]])).peaks, ((1,),))
        self.assertEqual(reach_of(Map([["a"]], outages=[6])).peaks, ((6,),))
        self.assertEqual(reach_of(Map([["a"]], outages=[6], length=4)).peaks, ((3,),))
        self.assertEqual(reach_of(Map([["a"]], outages=[0])).peaks, ((0,),))
        self.assertEqual(reach_of(Map([["a"]], outages=[None])).peaks, ((None,),))
        self.assertEqual(reach_of(Map([["a"], ["b"]])).peaks, ((0, 1), (1, 0)))
        self.assertEqual(reach_of(Map([["a"], ["b"]], [("a", "b")])).peaks, ((1, 1),))
        self.assertEqual(reach_of(Map([["a"], ["b"]], [("a", "b")], outages=[None, 1])).peaks, ((None, 1),))
        self.assertEqual(reach_of(Map([["a"], ["b"]], outages=[None, 1])).peaks, ((0, 1), (None, 0)))
        self.assertEqual(reach_of(Map([["a"], ["b"]], outages=[None, None])).peaks, ((0, None), (None, 0)))
        self.assertEqual(reach_of(Map([["a"], ["b"]], [("a", "b")], outages=[2, 3])).peaks, ((2, 3),))
        self.assertEqual(reach_of(Map([["a"], ["b"]], [("a", "b")], outages=[1, 3])).peaks, ((1, 3),))
        self.assertEqual(reach_of(Map([["a"], ["b"], ["c"]], [("a", "b"), ("b", "c")], outages=[1, 1, 1])).peaks,
                         ((0, 1, 1), (1, 1, 0)))

    def check(self, chart, counts):
        reach = reach_of(chart)
        self.assertEqual(reach.size, len(chart.areas))
        ended = [area for area, outage in enumerate(chart.outages) if outage is not None]
        self.assertEqual(plain_peaks([tuple(peak[area] for area in ended) for peak in reach]),
                         plain_peaks([tuple(count[area] for area in ended) for count in counts]))
        for count in counts:
            self.assertIn(count, reach)
        return reach

    def check_walks(self, chart, reach):
        for peak in reach:
            wanted = tuple(3 if days is None else days for days in peak)
            walk = walk_to(chart, wanted)
            self.assertIsInstance(walk, Walk)
            self.assertEqual(walk.chart, chart)
            self.assertIs(is_below(wanted, walk.count()), True)
            for area in range(len(peak)):
                more = wanted[:area] + (wanted[area] + 1,) + wanted[area + 1:]
                self.assertIs(walk_to(chart, more) is not None, more in reach)

    def test_against_all_walks(self):
        for chart in small_maps(33, 150, parts=6):
            self.check_walks(chart, self.check(chart, all_counts(chart)))

    def test_four_areas(self):
        for chart in small_maps(34, 40, parts=4, areas=4):
            self.check_walks(chart, self.check(chart, all_counts(chart)))

    def test_earlier_and_later_walks_pay_no_more(self):
        for chart in small_maps(35, 40, parts=4, endless=0):
            self.check(chart, all_counts(chart, -5, 5))

    def test_areas_without_end(self):
        for chart in small_maps(36, 60, parts=2, endless=0.6):
            reach = reach_of(chart)
            counts = all_counts(chart, -1, 4)
            for count in counts:
                self.assertIn(count, reach)
            for peak in reach:
                endless = tuple(1 if days is None else 0 for days in peak)
                self.assertTrue(any(plain_below(endless, count) for count in counts))

    def test_walks_to_many_days(self):
        chart = Map([["a"], ["b"], ["c", "d"]], [("a", "c"), ("b", "d"), ("c", "d")], length=4, borders=[0, 1, 3],
                    outages=[None, None, 2])
        walk = walk_to(chart, (20, 20, 2))
        self.assertIs(is_below((20, 20, 2), walk.count()), True)
        self.assertIsNone(walk_to(chart, (0, 0, 3)))
        self.assertEqual(walk_to(chart, (0, 0, 0)).count(), (0, 0, 0))
        self.assertIsNotNone(walk_to(count=(20, 0, 0), chart=chart))
        self.assertIsNone(walk_to(Map([["a"], ["b"]], outages=[None, None]), (1, 1)))
        self.assertIsNotNone(walk_to(Map([["a"], ["b"]], outages=[None, 0]), (20, 0)))
        self.assertIsNone(walk_to(Map([["a"], ["b"]], outages=[None, 0]), (20, 1)))

    def test_walks_to_far_places(self):
        chart = Map([["a"], ["f"], ["c", "d"], ["b"]], [("a", "b"), ("b", "c"), ("c", "d"), ("d", "f")],
                    outages=[2, None, None, 1])
        for wanted in [(1, 1, 1, 1), (0, 1, 0, 1), (2, 2, 1, 0), (0, 1, 1, 0), (1, 0, 1, 1)]:
            walk = walk_to(chart, wanted)
            self.assertIs(is_below(wanted, walk.count()), True)

    def test_wrong_values(self):
        chart = Map([["a"], ["b"]])
        for value in any_values() + [chart.areas, Map, Walk(chart, 0, 0, [])]:
            self.assert_raises(BadPart, "part", "chart", lambda: reach_of(value))
            self.assert_raises(BadPart, "part", "chart", lambda: walk_to(value, None))
        for value in any_values() + [(1,), (1, 2, 3), [1, 2], (1, 21), (None, 1), (1, True), (-1, 0), (1, "1")]:
            self.assert_raises(BadCount, "index", value, lambda: walk_to(chart, value))
        self.assertIsNone(walk_to(chart, (20, 20)))

    def test_too_many(self):
        self.assert_too_many(lambda: reach_of(HUGE))
        self.assert_too_many(lambda: walk_to(HUGE, (1, 1, 1, 1)))
        for outages in ([6, 6, 0, 0], [3, 3, 3, 3]):
            try:
                reach = reach_of(HUGE.with_outages(outages))
            except TooMany:
                self.fail("few states")
            self.assertGreaterEqual(len(reach), 1)


if __name__ == "__main__":
    unittest.main()
