"""What can be paid by limits for a day, and the papers of it."""

import copy
import random
import unittest

from cutofftills.errors import BadLimits, BadPart
from cutofftills.maps import Map
from cutofftills.purchases import Allowance, most_paid
from cutofftills.reach import reach_of
from cutofftills.walkpapers import as_much, best_walk, lets_paid, most_by_days, never_more, units_of
from cutofftills.walks import Walk
from odd import any_values, odd_values
from plainwalks import PlainWalk, plain_heights, plain_most, plain_worth, random_walk, reach_of_time, small_maps
from test_limits import Raising
from test_reach import HUGE

CHART = Map([["a", "b"], ["c"]], [("a", "b"), ("b", "c")], length=2, borders=[0, 1], outages=[2, 1])
ENDLESS = CHART.with_outages([1, None])


def maps_with_limits(seed, many, parts=6, endless=0.2, areas=3):
    chance = random.Random(seed)
    for chart in small_maps(seed, many, parts=parts, endless=endless, areas=areas):
        yield chart, [chance.choice((0, 1, 2, 3, 10 ** 40)) for _ in chart.areas]


class Most(Raising):
    def test_by_hand(self):
        self.assertEqual(most_by_days(chart=CHART, limits=[3, 5]), 11)
        self.assertEqual(most_by_days(CHART, (0, 5)), 5)
        self.assertEqual(most_by_days(CHART, [0, 0]), 0)
        self.assertEqual(most_by_days(CHART, [10 ** 99, 1]), 2 * 10 ** 99 + 1)
        self.assertIsNone(most_by_days(ENDLESS, [0, 1]))
        self.assertEqual(most_by_days(ENDLESS, [4, 0]), 4)
        self.assertEqual(most_by_days(CHART.with_outages([0, 0]), [4, 4]), 0)
        self.assertEqual(most_by_days(CHART.with_outages([6, 6]), [3, 5]), 29)

    def test_against_all_walks(self):
        seen = {None: 0}
        for chart, limits in maps_with_limits(51, 160):
            most = plain_most(chart, limits)
            self.assertEqual(most_by_days(chart, limits), most)
            walk = best_walk(chart, limits)
            if most is None:
                seen[None] += 1
                self.assertIsNone(walk)
                continue
            self.assertEqual((walk.chart, units_of(walk, limits)), (chart, most))
            self.assertEqual(most_paid(chart, Allowance([min(limit, 10 ** 30) for limit in limits])),
                             plain_most(chart, [min(limit, 10 ** 30) for limit in limits]))
        self.assertGreater(seen[None], 20)

    def check_longer(self, chart, limits):
        most = never_more(chart, limits)[1]
        self.assertEqual(most_by_days(chart, limits), most)
        self.assertEqual(units_of(best_walk(chart, limits), limits), most)
        self.assertEqual(max(plain_worth(peak, limits) for peak in reach_of(chart)), most)

    def test_longer_outages(self):
        # Here it is better to come through an area early without paying there.
        early = Map([["b", "d"], ["f"], ["e"], ["c"]], [("b", "c"), ("b", "d"), ("b", "e"), ("b", "f"), ("c", "d"),
                                                       ("d", "e"), ("d", "f")], length=3, borders=[1, 0, 0, 1],
                    outages=[2, 1, 4, 3])
        self.check_longer(early, [4, 4, 3, 2])
        self.assertIn((2, 1, 2, 1), reach_of(early))
        late = Map([["b"], ["c"], ["a"], ["d"]], [("a", "b"), ("b", "c"), ("b", "d")], length=3, borders=[2, 0, 1, 2],
                   outages=[5, 3, 5, 1])
        self.assertEqual(reach_of(late).peaks, ((3, 1, 3, 0), (3, 2, 2, 1)))
        chance = random.Random(57)
        for parts in (8, 12):
            for chart, limits in maps_with_limits(50 + parts, 40, parts=parts, endless=0, areas=3):
                self.check_longer(chart, limits)
                self.check_longer(chart, [chance.randrange(1, 9) for _ in limits])

    def test_units(self):
        walk = Walk(CHART, 1, -2, [("a", True), ("b", True), ("c", True)])
        self.assertEqual(units_of(walk=walk, limits=[3, 5]), 11)
        self.assertEqual(units_of(walk, (0, 10 ** 40)), 10 ** 40)
        self.assertEqual(units_of(Walk(CHART, 0, 0, []), (7, 7)), 0)
        chance = random.Random(5)
        for chart, limits in maps_with_limits(52, 100):
            phase, begin, stops, plain = random_walk(chart, chance, 20)
            self.assertEqual(units_of(Walk(chart, phase, begin, stops), limits),
                             sum(days * limit for days, limit in zip(plain.count(), limits)))

    def test_wrong_values_in_order(self):
        for call in (most_by_days, best_walk, never_more, as_much, lambda chart, limits: lets_paid(chart, limits, 1)):
            for value in any_values() + [CHART.areas, Map]:
                self.assert_raises(BadPart, "part", "chart", lambda: call(value, None))
            for value in any_values() + [[1], [1, 2, 3], [1, -1], [1, True], [1, None], "11", {0: 1, 1: 1}]:
                self.assert_raises(BadLimits, "limits", value, lambda: call(CHART, value))
        walk = Walk(CHART, 0, 0, [])
        for value in any_values() + [CHART, walk.stops]:
            self.assert_raises(BadPart, "part", "walk", lambda: units_of(value, None))
        for value in any_values() + [[1], [1, 2, 3], [1, -1], [1, True]]:
            self.assert_raises(BadLimits, "limits", value, lambda: units_of(walk, value))

    def test_too_many(self):
        for call in (most_by_days, best_walk, never_more, as_much):
            self.assert_too_many(lambda: call(HUGE, [1] * 4))
        self.assertIsNone(most_by_days(HUGE.with_outages([6, 6, 6, None]), [1] * 4))
        self.assertEqual(most_by_days(HUGE, [0, 0, 0, 1]), 3)
        # Too many nodes in all, but not in each phase.
        chart = Map([["a"], ["b"], ["c"]], [("a", "b"), ("a", "c"), ("b", "c")], length=4, outages=[6, 6, 6])
        self.assert_too_many(lambda: never_more(chart, [1, 1, 1]))
        self.assertEqual(most_by_days(chart, [1, 1, 1]), 8)
        chart = chart.with_outages([6, 6, 5])
        self.assertIs(lets_paid(chart, [1, 1, 1], as_much(chart, [1, 1, 1])), True)


class Papers(Raising):
    def test_by_hand(self):
        chart = Map([["a"]], outages=[1])
        marks = [((None,), (False,)), ((None,), (False,)), ((0,), (False,))]
        self.assertEqual(never_more(chart, [4]), ("never", 4, [
            ((0, -1, "a", marks[0]), 4), ((0, 0, "a", marks[1]), 4), ((0, 0, "a", marks[2]), 0)]))
        self.assertEqual(as_much(chart, [4])[:3], ("walk", 4, 0))
        self.assertEqual(never_more(ENDLESS, [1, 1]), ("endless", "c"))
        self.assertEqual(as_much(limits=[1, 1], chart=ENDLESS), ("endless", "c"))
        self.assertEqual(never_more(ENDLESS.with_outages([None, None]), [1, 1]), ("endless", "a"))
        self.assertEqual(never_more(limits=[1, 0], chart=ENDLESS.with_outages([0, None])), ("never", 0, []))
        self.assertEqual(as_much(ENDLESS.with_outages([0, None]), [1, 0])[:3], ("walk", 0, 0))

    def check(self, chart, limits, most):
        never, walk = never_more(chart, limits), as_much(chart, limits)
        self.assertIs(lets_paid(chart, limits, never), True)
        self.assertIs(lets_paid(chart, limits, walk), True)
        if most is None:
            places = [place for place in chart.places() if chart.outages[chart.area_of(place)] is None
                      and limits[chart.area_of(place)] > 0]
            self.assertEqual((never, walk), (("endless", places[0]), ("endless", places[0])))
            return
        self.assertEqual([type(never), len(never), type(never[2]), never[:2]], [tuple, 3, list, ("never", most)])
        heights = plain_heights(chart, limits)
        self.assertEqual(dict(never[2]), heights)
        self.assertEqual(len(never[2]), len(heights))
        self.assertEqual([type(walk), len(walk), walk[:2]], [tuple, 5, ("walk", most)])
        self.assertEqual(units_of(Walk(chart, *walk[2:]), limits), most)

    def test_against_all_walks(self):
        for chart, limits in maps_with_limits(53, 120):
            self.check(chart, limits, plain_most(chart, limits))

    def test_four_areas(self):
        for chart, limits in maps_with_limits(54, 30, parts=4, areas=4):
            self.check(chart, limits, plain_most(chart, limits))

    def test_the_rows_are_new(self):
        never_more(CHART, [1, 1])[2].clear()
        self.assertIs(lets_paid(CHART, [1, 1], never_more(CHART, [1, 1])), True)


def plain_node_form(chart, node):
    many, time = len(chart.areas), reach_of_time(chart)
    if type(node) is not tuple or len(node) != 4 or type(node[0]) is not int or type(node[1]) is not int:
        return False
    if not 0 <= node[0] < chart.length or not -time <= node[1] < time or node[2] not in chart.places():
        return False
    marks = node[3]
    if type(marks) is not tuple or len(marks) != 2 or [type(row) for row in marks] != [tuple, tuple]:
        return False
    return (len(marks[0]) == many == len(marks[1]) and all(type(today) is bool for today in marks[1])
            and all(left is None or type(left) is int and 0 <= left <= 6 for left in marks[0]))


def plain_lets_never(chart, limits, most, rows):
    """Whether rows are a paper, by the nodes of all walks; the rows are of the right kinds of values."""
    if most < 0 or any(outage is None and limit for outage, limit in zip(chart.outages, limits)):
        return False
    nodes = [node for node, _ in rows]
    if len(set(nodes)) < len(nodes) or not all(plain_node_form(chart, node) for node in nodes):
        return False
    told = dict(rows)
    if any(type(height) is not int or height < 0 for height in told.values()):
        return False
    time = reach_of_time(chart)
    rank = [PlainWalk(chart, phase, -time, place) for phase in range(chart.length) for place in chart.places()]
    if time and any(told.get(walk.node(), most + 1) > most for walk in rank):
        return False
    for _ in range(-time, time):
        found = {}
        for walk in rank:
            for behind in walk.ways():
                paid = sum((new - old) * limit for new, old, limit in zip(behind.count(), walk.count(), limits))
                later = told.get(behind.node()) if behind.time < time else 0
                if later is None or told[walk.node()] < later + paid:
                    return False
                found[behind.key()] = behind
        rank = list(found.values())
    return True


class Checker(Raising):
    def bend(self, chance, chart, paper):
        """A paper that is changed somewhere, perhaps so that it still holds."""
        word, most, rows = paper
        rows = list(rows)
        kind = chance.randrange(9)
        at = chance.randrange(len(rows)) if rows else None
        if kind == 0 or at is None:
            return word, most + chance.choice((-1, 1, 5)), rows
        (phase, time, place, (lefts, todays)), height = rows[at]
        if kind == 1:
            rows.pop(at)
        if kind == 2:
            rows[at] = (rows[at][0], max(0, height + chance.choice((-1, 1, 2, 9))))
        if kind == 3:
            rows = [(node, old + 1) for node, old in rows]
            most += chance.randrange(2)
        if kind == 4:
            rows.append(((phase, chance.randrange(-6, 6), chance.choice(chart.places()),
                          (tuple(chance.choice((None, 0, 1, 6, 7)) for _ in lefts), todays)), chance.randrange(3)))
        if kind == 5:
            rows[at] = ((phase, time, place, (lefts, tuple(not today for today in todays))), height)
        if kind == 6:
            rows[at] = ((phase, time, place, (tuple(None if left else 1 for left in lefts), todays)), height)
        if kind == 7:
            rows = [row for row in rows if row[0][1] != time or chance.random() < 0.8]
        if kind == 8:
            chance.shuffle(rows)
        return word, most, rows

    def test_bent_papers(self):
        chance = random.Random(55)
        seen = {True: 0, False: 0}
        for chart, limits in maps_with_limits(55, 110, parts=4, endless=0):
            paper = never_more(chart, limits)
            most = paper[1]
            for _ in range(8):
                bent = self.bend(chance, chart, paper)
                if chance.random() < 0.5:
                    bent = self.bend(chance, chart, bent)
                lets = lets_paid(chart, limits, bent)
                self.assertIs(lets, plain_lets_never(chart, limits, bent[1], bent[2]))
                self.assertTrue(not lets or bent[1] >= most)
                seen[lets] += 1
        self.assertGreater(min(seen.values()), 150)

    def test_papers_of_other_hands(self):
        # Every node by its form, with heights that fall with time alone.
        chart = Map([["a"], ["b"]], [("a", "b")], length=2, borders=[0, 1], outages=[1, 2])
        lefts = [(one, two) for one in (None, 0, 1, 2, 6) for two in (None, 0, 1, 2, 6)]
        todays = [(one, two) for one in (True, False) for two in (True, False)]
        rows = tuple(((phase, time, place, (left, today)), 7 * (2 - time)) for phase in (0, 1) for time in range(-2, 2)
                     for place in "ba" for left in lefts for today in todays)
        self.assertIs(lets_paid(chart, [7, 7], ("never", 28, rows)), True)
        self.assertIs(lets_paid(chart, [7, 7], ("never", 27, rows)), False)
        self.assertIs(lets_paid(chart, [8, 7], ("never", 28, rows)), False)
        self.assertIs(lets_paid(chart, [7, 8], ("never", 28, list(rows))), False)
        # Nodes to which no walk comes may have any height.
        wild = rows + (((0, -2, "a", ((3, 3), (True, True))), 0),)
        self.assertIs(lets_paid(chart, [7, 7], ("never", 28, wild)), True)
        # The papers of other limits.
        self.assertIs(lets_paid(CHART, [2, 5], never_more(CHART, [3, 5])), True)
        self.assertIs(lets_paid(CHART, [3, 5], never_more(CHART, [2, 5])), False)
        self.assertIs(lets_paid(CHART.with_outages([2, 2]), [3, 5], never_more(CHART, [3, 5])), False)

    def test_walks(self):
        stops = [("a", True), ("b", True), ("c", True)]
        for value, expected in [
                (("walk", 11, 1, -2, stops), True), (("walk", 11, 1, -2, tuple(stops)), True),
                (("walk", -5, 1, -2, stops), True), (("walk", 12, 1, -2, stops), False),
                (("walk", 11, 0, -2, stops), False), (("walk", 8, 0, -2, stops), True),
                (("walk", 0, 0, 12, []), True), (("walk", 0, 0, 13, []), False), (("walk", 0, 0, -12, []), True),
                (("walk", 0, 2, 0, []), False), (("walk", 0, True, 0, []), False), (("walk", True, 1, -2, stops), False),
                (("walk", 0, 0, -3, stops), False), (("walk", 0, 0, 0, [("a", False), ("c", False)]), False),
                (("walk", 0, 0, 0, [["a", False]]), False), (("walk", 0, 0, 0), False), (("walk", 0), False),
                (("walk", 0, 0, 0, [], 0), False), (["walk", 0, 0, 0, []], False), (("Walk", 0, 0, 0, []), False),
                (("walk", 0, 0, 0, {}), False), (("walk", 0, 0, 0, None), False), (("walk", None, 0, 0, []), False),
                (("never", 0, 0, 0, []), False), (("endless", 0, 0, 0, []), False)]:
            kept = copy.deepcopy(value)
            self.assertIs(lets_paid(CHART, [3, 5], value), expected, value)
            self.assertEqual(value, kept)
        self.assertIs(lets_paid(ENDLESS, [0, 1], ("walk", 20, 0, 0, [("c", True)] * 40)), True)
        self.assertIs(lets_paid(ENDLESS, [0, 1], ("walk", 22, 0, 0, [("c", True)] * 40)), False)

    def test_walks_of_other_hands(self):
        chance = random.Random(56)
        for chart, limits in maps_with_limits(56, 150):
            phase, begin, stops, plain = random_walk(chart, chance, 20)
            paid = sum(days * limit for days, limit in zip(plain.count(), limits))
            self.assertIs(lets_paid(chart, limits, ("walk", paid, phase, begin, stops)), True)
            self.assertIs(lets_paid(chart, limits, ("walk", paid + 1, phase, begin, stops)), False)

    def test_endless(self):
        for value, expected in [(("endless", "c"), True), (("endless", "a"), False), (("endless", "d"), False),
                                (["endless", "c"], False), (("endless",), False), (("endless", "c", 1), False),
                                (("Endless", "c"), False), ("endless", False)]:
            self.assertIs(lets_paid(ENDLESS, [1, 1], value), expected)
        self.assertIs(lets_paid(ENDLESS, [1, 0], ("endless", "c")), False)
        self.assertIs(lets_paid(CHART, [1, 1], ("endless", "c")), False)
        chart = ENDLESS.with_outages([None, None])
        self.assertEqual([lets_paid(chart, [1, 1], ("endless", place)) for place in "abc"], [True] * 3)
        # With a place without end there is no bound to be told.
        self.assertIs(lets_paid(ENDLESS, [1, 1], ("never", 99, never_more(CHART, [1, 1])[2])), False)

    def test_no_outages(self):
        chart = CHART.with_outages([0, None])
        for value, expected in [(("never", 0, []), True), (("never", 7, ()), True), (("never", -1, []), False),
                                (("never", True, []), False), (("never", 0, {}), False), (("never", 0, None), False),
                                (("never", 0), False), (("never", 0, [], []), False), (("never", 0, [None]), False),
                                (("never", 0, [((0, 0, "a", ((0, 0), (False, False))), 0)]), False)]:
            self.assertIs(lets_paid(chart, [5, 0], value), expected)
        self.assertIs(lets_paid(CHART, [0, 0], ("never", 0, [])), False)
        self.assertIs(lets_paid(chart, [5, 1], ("never", 99, [])), False)

    def test_rows_that_are_not_needed(self):
        word, most, rows = never_more(CHART, [3, 5])
        wild = (1, -2, "c", ((3, 6), (True, False)))
        for node, height in [(wild, 0), (wild, 10 ** 50), ((0, 1, "a", ((None, None), (False, True))), 0)]:
            self.assertIs(lets_paid(CHART, [3, 5], (word, most, rows + [(node, height)])), True)
            self.assertIs(lets_paid(CHART, [3, 5], (word, most, rows + [(node, height)] * 2)), False)
        marks = wild[3]
        for node in [(2, -2, "c", marks), (-1, -2, "c", marks), (True, -2, "c", marks), (1, -3, "c", marks),
                     (1, 2, "c", marks), (1, True, "c", marks), (1, -2, "d", marks), (1, -2, "c"),
                     (1, -2, "c", marks, 0), [1, -2, "c", marks], (1, -2, "c", list(marks)), (1, -2, "c", marks[:1]),
                     (1, -2, "c", marks + ((),)), (1, -2, "c", ([3, 6], (True, False))),
                     (1, -2, "c", ((3, 6), [True, False])), (1, -2, "c", ((3,), (True, False))),
                     (1, -2, "c", ((3, 6, 0), (True, False))), (1, -2, "c", ((3, 6), (True,))),
                     (1, -2, "c", ((3, 6), (True, False, False))), (1, -2, "c", ((3, 7), (True, False))),
                     (1, -2, "c", ((3, -1), (True, False))), (1, -2, "c", ((3, True), (True, False))),
                     (1, -2, "c", ((3, 6), (1, False))), (1, -2, "c", ((3, 6), (None, False))), None, ()]:
            self.assertIs(lets_paid(CHART, [3, 5], (word, most, rows + [(node, 0)])), False, node)
        for height in (-1, True, None, "1", [1]):
            self.assertIs(lets_paid(CHART, [3, 5], (word, most, rows + [(wild, height)])), False)
        for row in ([wild, 0], (wild,), (wild, 0, 0), wild, (), None):
            self.assertIs(lets_paid(CHART, [3, 5], (word, most, rows + [row])), False)
        for value in odd_values():
            for node in [(value, -2, "c", marks), (1, value, "c", marks), (1, -2, value, marks),
                         (1, -2, "c", ((3, 6), value)), (1, -2, "c", ((3, 6), (True, value)))]:
                self.assertIs(lets_paid(CHART, [3, 5], (word, most, rows + [(node, 0)])), False)

    def test_any_values(self):
        word, most, rows = never_more(CHART, [3, 5])
        node, height = rows[-1]
        phase, time, place, (lefts, todays) = node
        for value in any_values():
            self.assertIs(lets_paid(CHART, [3, 5], value), False)
        for value in odd_values() + [True, "1", [1], 10 ** 30, -1]:
            for paper in [(value, most, rows), (word, most, value), (word, most, rows + [value]),
                          (word, most, rows[:-1] + [(value, height)]), (word, most, rows + [(node, value)]),
                          (word, most, rows[:-1] + [((value, time, place, (lefts, todays)), height)]),
                          (word, most, rows[:-1] + [((phase, value, place, (lefts, todays)), height)]),
                          (word, most, rows[:-1] + [((phase, time, value, (lefts, todays)), height)]),
                          (word, most, rows[:-1] + [((phase, time, place, value), height)]),
                          (word, most, rows[:-1] + [((phase, time, place, (value, todays)), height)]),
                          (word, most, rows[:-1] + [((phase, time, place, (lefts, value)), height)]),
                          (word, most, rows[:-1] + [((phase, time, place, ((0, value), (False, value))), height)]),
                          (word, most, rows[:-1] + [((phase, time, place, (lefts, (value, False))), height)]),
                          ("endless", value), ("walk", 0, value, 0, []), ("walk", 0, 0, 0, [value])]:
                self.assertIs(lets_paid(CHART, [3, 5], paper), False)
        for value in odd_values() + [True, "1", [most], -1, None]:
            self.assertIs(lets_paid(CHART, [3, 5], (word, value, rows)), False)
        for value in odd_values() + [True, "1", [1]]:
            self.assertIs(lets_paid(CHART, [3, 5], ("walk", value, 0, 0, [])), False)
            self.assertIs(lets_paid(CHART, [3, 5], ("walk", 0, 0, value, [])), False)
        for wrong in ([list(rows[0])], [rows[0] + (1,)], [rows[0][:1]], [(list(rows[0][0]), rows[0][1])]):
            self.assertIs(lets_paid(CHART, [3, 5], (word, most, wrong + rows[1:])), False)
        self.assertIs(lets_paid(value=(word, most, tuple(rows)), limits=(3, 5), chart=CHART), True)
        self.assertIs(lets_paid(CHART, [3, 5], (word, most, rows + rows[:1])), False)
        self.assertIs(lets_paid(CHART, [3, 5], [word, most, rows]), False)


if __name__ == "__main__":
    unittest.main()
