"""Allowances, what counts are worth, and what parts two reaches."""

import itertools
import random
import unittest

from cutofftills.errors import BadCount, BadLimits, BadPart
from cutofftills.maps import Map
from cutofftills.purchases import Allowance, most_by, most_paid, parting_allowance
from cutofftills.reach import Reach, reach_of
from odd import any_values, odd_values
from plainwalks import all_counts, small_maps
from test_limits import Raising
from test_reach import HUGE, random_counts

TOP = 10 ** 30
PLAIN = Allowance([3, 5])


def plain_worth(count, days, outages, memory):
    """By trying how often each area is paid; None stands for more than all else comes to."""
    if memory[0] == "times":
        many = memory[1]
    else:
        many = 10 ** 6
    tops = [min(10 ** 4 if one is None else one, many) for one in count]
    if memory[0] == "times":
        rows = itertools.product(*[range(top + 1) for top in tops])
    else:
        rows = [tops]
    best = 0
    for row in rows:
        if sum(row) <= many or memory[0] != "times":
            paid = sum(min(often * limit, often * limit if top is None else top)
                       for often, limit, top in zip(row, days, outages))
            best = max(best, paid)
    if memory[0] == "sum":
        return min(best, memory[1])
    return None if best >= 10 ** 4 else best


class Class(Raising):
    def test_attributes(self):
        self.assertEqual((PLAIN.by_day, PLAIN.by_outage, PLAIN.memory, len(PLAIN)), ((3, 5), (None, None),
                                                                                    ("nothing",), 2))
        allowance = Allowance(memory=("times", TOP), outages=(None, 0, TOP), days=(0, TOP, 1))
        self.assertEqual((allowance.by_day, allowance.by_outage, allowance.memory, len(allowance)),
                         ((0, TOP, 1), (None, 0, TOP), ("times", TOP), 3))
        with self.assertRaises(TypeError):
            Allowance([1], [1])

    def test_equal(self):
        allowance = Allowance([1, 2], outages=[3, None], memory=("sum", 4))
        self.assertIs(allowance == Allowance((1, 2), outages=(3, None), memory=("sum", 4)), True)
        self.assertIs(allowance != Allowance((1, 2), outages=(3, None), memory=("sum", 4)), False)
        for other in [Allowance([1, 3], outages=[3, None], memory=("sum", 4)),
                      Allowance([1, 2], memory=("sum", 4)), Allowance([1, 2], outages=[3, None]),
                      Allowance([1, 2], outages=[3, None], memory=("times", 4))]:
            self.assertIs(allowance == other, False)
        self.assertEqual(Allowance([1], outages=[None]), Allowance([1]))
        for value in any_values() + [(1, 2)]:
            self.assertIs(allowance == value, False)

    def test_wrong_values_in_order(self):
        for value in odd_values() + [[], [1] * 5, [-1], [True], [TOP + 1], "1", 1, [None], ["1"], [1, None]]:
            self.assert_raises(BadLimits, "limits", "days", lambda: Allowance(value, outages=1, memory=1))
        for value in odd_values()[1:] + [[], [1], [1, 2, 3], [1, -1], [1, True], [TOP + 1, 1], "11", 1, [1, "1"]]:
            self.assert_raises(BadLimits, "limits", "outages", lambda: Allowance([1, 2], outages=value, memory=1))
        for value in any_values() + [("nothing", 1), ("times",), ("times", -1), ("times", True), ("sum", TOP + 1),
                                     ["nothing"], ("times", 1, 1), ("Sum", 1), ("sum", None), "nothing"]:
            self.assert_raises(BadLimits, "limits", "memory", lambda: Allowance([1, 2], memory=value))
        for value in odd_values():
            self.assert_raises(BadLimits, "limits", "days", lambda: Allowance([1, value]))
            self.assert_raises(BadLimits, "limits", "memory", lambda: Allowance([1], memory=("sum", value)))
            self.assert_raises(BadLimits, "limits", "memory", lambda: Allowance([1], memory=(value, 1)))

    def test_what_is_handed_in_is_not_kept(self):
        days, outages = [1, 2], [3, 4]
        allowance = Allowance(days, outages=outages)
        days.clear()
        outages.clear()
        self.assertEqual((allowance.by_day, allowance.by_outage), ((1, 2), (3, 4)))


class Worth(Raising):
    def test_by_hand(self):
        self.assertEqual([PLAIN.worth(count) for count in [(0, 0), (1, 0), (2, 3), (None, 0), (0, None)]],
                         [0, 3, 21, None, None])
        allowance = Allowance([3, 5], outages=[7, None])
        self.assertEqual([allowance.worth(count) for count in [(1, 1), (2, 0), (3, 0), (None, 1), (0, None)]],
                         [8, 6, 7, 12, None])
        self.assertEqual(Allowance([0, 5]).worth((None, 2)), 10)
        self.assertEqual(Allowance([3], outages=[0]).worth((None,)), 0)
        self.assertEqual(Allowance([3, 5], memory=("sum", 9)).worth((None, 1)), 9)
        self.assertEqual(Allowance([3, 5], memory=("sum", 9)).worth((1, 1)), 8)
        self.assertEqual(Allowance([3, 5], memory=("sum", 0)).worth((1, None)), 0)
        self.assertEqual(Allowance([3, 5], memory=("times", 3)).worth((4, 2)), 13)
        self.assertEqual(Allowance([3, 5], memory=("times", 3)).worth((None, None)), 15)
        self.assertEqual(Allowance([3, 5], memory=("times", 0)).worth((None, None)), 0)
        # 5 and 2 are left of the second one's 7: 5, 3, 3 are best.
        self.assertEqual(Allowance([3, 5], outages=[None, 7], memory=("times", 3)).worth((9, 9)), 11)
        self.assertEqual(Allowance([3, 5], outages=[None, 9], memory=("times", 3)).worth((9, 9)), 12)
        self.assertEqual(Allowance([5, 5], outages=[3, None], memory=("times", 1)).worth((9, 9)), 5)
        self.assertEqual(PLAIN.worth(count=(1, 1)), 8)

    def test_numbers_of_any_size(self):
        count = (10 ** 29, 10 ** 29 - 1)
        self.assertEqual(Allowance([TOP, TOP]).worth(count), 10 ** 30 * (2 * 10 ** 29 - 1))
        self.assertEqual(Allowance([TOP - 1, 7], outages=[TOP, None]).worth(count), 10 ** 30 + 7 * (10 ** 29 - 1))
        self.assertEqual(Allowance([TOP, 7], memory=("times", 10 ** 29 + 5)).worth(count), 10 ** 59 + 35)
        self.assertEqual(Allowance([3], outages=[TOP], memory=("times", TOP)).worth((None,)), TOP)
        self.assertEqual(Allowance([3], outages=[TOP], memory=("times", TOP // 3)).worth((None,)), TOP - 1)
        self.assertEqual(Allowance([3], memory=("times", TOP)).worth((None,)), 3 * TOP)

    def test_wrong_counts(self):
        for value in any_values() + [(1,), (1, 2, 3), [1, 2], (1, -1), (True, 1), (1, 10 ** 29 + 1)]:
            if not (isinstance(value, tuple) and len(value) == 2 and value[0] is None and value[1] is None):
                self.assert_raises(BadCount, "index", value, lambda: PLAIN.worth(value))

    def test_against_all_payments(self):
        chance = random.Random(41)
        for _ in range(1500):
            many = chance.randrange(1, 4)
            days = [chance.randrange(6) for _ in range(many)]
            outages = [None if chance.random() < 0.4 else chance.randrange(12) for _ in range(many)]
            memory = chance.choice([("nothing",), ("times", chance.randrange(7)), ("sum", chance.randrange(20))])
            count = tuple(None if chance.random() < 0.15 else chance.randrange(6) for _ in range(many))
            self.assertEqual(Allowance(days, outages=outages, memory=memory).worth(count),
                             plain_worth(count, days, outages, memory), (days, outages, memory, count))


class Most(Raising):
    def test_by_hand(self):
        reach = Reach(2, [(2, 0), (1, 1), (0, 3)])
        self.assertEqual(most_by(reach, PLAIN), 15)
        self.assertEqual(most_by(reach, Allowance([9, 5])), 18)
        self.assertEqual(most_by(allowance=Allowance([9, 5], outages=[9, 9]), reach=reach), 14)
        self.assertEqual(most_by(Reach(2, []), PLAIN), 0)
        self.assertIsNone(most_by(Reach(2, [(2, 0), (0, None)]), PLAIN))
        self.assertEqual(most_by(Reach(2, [(2, 0), (0, None)]), Allowance([1, 0])), 2)
        self.assertEqual(most_by(Reach(2, [(2, 0), (0, None)]), Allowance([1, 1], memory=("sum", 5))), 5)

    def test_wrong_reaches(self):
        for value in any_values() + [Reach(1, []), Reach(3, []), ((0, 0),), Reach]:
            self.assert_raises(BadPart, "part", "reach", lambda: most_by(value, PLAIN))

    def test_most_paid(self):
        chart = Map([["a"], ["b"]], [("a", "b")], outages=[2, 3])
        self.assertEqual(most_paid(chart, PLAIN), 21)
        self.assertEqual(most_paid(allowance=Allowance([3, 5], outages=[4, 11]), chart=chart), 15)
        self.assertIsNone(most_paid(chart.with_outages([None, 1]), PLAIN))

    def test_errors_in_order(self):
        chart = Map([["a"], ["b"]])
        for value in any_values() + [[1, 2], Allowance]:
            self.assert_raises(BadPart, "part", "allowance", lambda: most_paid(None, value))
        for value in any_values() + [[["a"]]]:
            self.assert_raises(BadPart, "part", "chart", lambda: most_paid(value, Allowance([1])))
        self.assert_raises(BadPart, "part", "reach", lambda: most_paid(chart, Allowance([1])))
        self.assert_raises(BadPart, "part", "reach", lambda: most_paid(chart, Allowance([1, 2, 3])))
        self.assert_too_many(lambda: most_paid(HUGE, Allowance([1] * 4)))
        self.assert_too_many(lambda: most_paid(HUGE, Allowance([1])))

    def test_against_all_walks(self):
        chance = random.Random(42)
        for chart in small_maps(42, 80, parts=6, endless=0):
            many = len(chart.areas)
            counts = all_counts(chart)
            for _ in range(4):
                days = [chance.randrange(6) for _ in range(many)]
                outages = [None if chance.random() < 0.5 else chance.randrange(9) for _ in range(many)]
                memory = chance.choice([("nothing",), ("times", chance.randrange(5)), ("sum", chance.randrange(20))])
                most = max(plain_worth(count, days, outages, memory) for count in counts)
                self.assertEqual(most_paid(chart, Allowance(days, outages=outages, memory=memory)), most)


class Parting(Raising):
    def check(self, one, other):
        allowance = parting_allowance(one, other)
        self.assertIs(allowance is None, one <= other)
        if allowance is None:
            return 0
        self.assertIsInstance(allowance, Allowance)
        self.assertEqual((allowance.memory, len(allowance)), (("nothing",), one.size))
        most, less = most_by(one, allowance), most_by(other, allowance)
        self.assertIsNotNone(less)
        self.assertTrue(most is None or most > less)
        return 1

    def test_random_reaches(self):
        chance = random.Random(43)
        parted = 0
        for _ in range(600):
            many = chance.randrange(1, 5)
            top = chance.choice((2, 3, 6, 10 ** 29 + 1))
            one = Reach(many, random_counts(chance, many, top=top, most=5))
            other = Reach(many, random_counts(chance, many, top=top, none=0.4, most=9))
            parted += self.check(one, other)
            parted += self.check(one & other, other) + self.check(one, one | other)
        self.assertTrue(150 < parted < 1000)

    def test_by_hand(self):
        top = 10 ** 29
        self.assertIsNone(parting_allowance(Reach(1, [(5,)]), Reach(1, [(5,)])))
        self.assertEqual(self.check(Reach(1, [(6,)]), Reach(1, [(5,)])), 1)
        self.assertEqual(self.check(Reach(1, [(None,)]), Reach(1, [(top,)])), 1)
        self.assertEqual(self.check(Reach(2, [(top, 1)]), Reach(2, [(top - 1, None), (None, 0)])), 1)
        self.assertEqual(self.check(Reach(2, [(None, 1)]), Reach(2, [(top, None), (None, 0)])), 1)
        self.assertIsNone(parting_allowance(other=Reach(1, [(None,)]), one=Reach(1, [(top,)])))

    def test_reaches_of_maps(self):
        charts = [chart for chart in small_maps(44, 60, parts=6) if len(chart.areas) == 2]
        for one, other in zip(charts, charts[1:]):
            self.check(reach_of(one), reach_of(other))

    def test_wrong_values(self):
        for value in any_values() + [((1,),), Reach]:
            self.assert_raises(BadPart, "part", "one", lambda: parting_allowance(value, None))
        for value in any_values() + [((1,),), Reach(2, [])]:
            self.assert_raises(BadPart, "part", "other", lambda: parting_allowance(Reach(1, []), value))


if __name__ == "__main__":
    unittest.main()
