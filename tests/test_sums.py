"""Sums of limits: what they tell of plain towns, and papers of them."""

import copy
import itertools
import random
import unittest

from cutofftills.errors import BadPart
from cutofftills.sums import (
    accepts_sum, closed_loss, closed_most, group_sum, has_spare, is_heeding, is_plain, sum_paper)
from cutofftills.tills import Till
from cutofftills.towns import Town
from cutofftills.worst import most_after_loss, most_overspent
from odd import any_values, odd_values
from plain import small_towns
from test_graphs import LARGE
from test_limits import Raising
from test_worst import deaf

LINKED = Town([Till("c", 1), Till("a", 3), Till("b", 2), Till("d", 0)], links=[("a", "b"), ("b", "d")], money=1)


class Truths(Raising):
    def test_sums(self):
        self.assertEqual(group_sum(town=LINKED), 4)
        self.assertEqual(group_sum(LINKED.with_links([])), 6)
        self.assertEqual(group_sum(LINKED.with_links([("a", "b"), ("a", "c"), ("c", "d")])), 3)
        self.assertEqual(group_sum(LARGE), 36)
        self.assertEqual(group_sum(deaf(4)), 4)
        self.assertEqual(group_sum(Town.even(3, 0, 1)), 0)

    def test_heeding_and_plain(self):
        mixed = Town([Till("a", 1), Till("b", 1, heeds=False)])
        for town, heeding, plain in [(LINKED, True, True), (mixed, False, False), (deaf(1), False, False),
                                     (Town.even(1, 1, 1).changed("memory", ("times", 9)), True, False),
                                     (Town.even(1, 1, 1).changed("memory", ("sum", 9)), True, False),
                                     (mixed.changed("memory", ("sum", 0)), False, False),
                                     (LARGE.changed("numbered", False), True, True)]:
            self.assertIs(is_heeding(town=town), heeding)
            self.assertIs(is_plain(town=town), plain)

    def test_spare(self):
        for town, expected in [(Town.even(1, 1, 1), False), (Town.even(1, 0, 1), True), (Town.even(4, 9, 0), False),
                               (LINKED, True), (Town([Till("a", 1), Till("b", 0)]), True),
                               (Town.even(2, 1, 1).with_links([("a", "b")]), True),
                               (Town.even(3, 1, 1).with_links([("a", "b")]), True), (deaf(0), True), (deaf(1), False)]:
            self.assertIs(has_spare(town=town), expected)


class Closed(Raising):
    def test_by_hand(self):
        self.assertEqual(closed_most(town=Town.even(2, 3, 1)), 5)
        self.assertEqual(closed_most(Town.even(2, 3, 0)), 0)
        self.assertEqual(closed_most(Town.even(2, 3, 0).changed("tops", 1)), 5)
        self.assertEqual(closed_most(LARGE), 35)
        self.assertEqual(closed_most(LINKED), 4)
        self.assertEqual(closed_loss(town=Town.even(2, 3, 1)), 6)
        self.assertEqual(closed_loss(Town.even(2, 3, 0)), 0)
        self.assertEqual(closed_loss(LARGE.changed("money", 0).changed("tops", 2)), 36)
        for town in (deaf(1), Town.even(1, 1, 1).changed("memory", ("times", 9)), deaf(0, money=0),
                     Town.even(1, 1, 0).changed("memory", ("sum", 0)),
                     Town([Till("a", 1), Till("b", 1, heeds=False)], money=1)):
            self.assertIsNone(closed_most(town))
            self.assertIsNone(closed_loss(town))

    def check(self, town):
        self.assertEqual(closed_most(town), most_overspent(town))
        self.assertEqual(closed_loss(town), most_after_loss(town))

    def test_they_tell_the_most(self):
        for limit, money, tops in itertools.product((0, 1, 2, 9), (0, 1, 2, 9), (0, 1, 2)):
            self.check(Town.even(1, limit, money).changed("tops", tops))
        for limits, money, tops, links in itertools.product(itertools.product((0, 1, 3), repeat=2), (0, 1, 2), (0, 1),
                                                            ([], [("a", "b")])):
            self.check(Town.even(2, 0, money).with_limits(limits).changed("tops", tops).with_links(links))
        for limits, links in itertools.product(itertools.product(range(3), repeat=3),
                                               ([], [("a", "b")], [("a", "b"), ("b", "c")])):
            self.check(Town.even(3, 0, 1).with_limits(limits).with_links(links))
        self.check(LINKED)
        self.check(Town.even(4, 1, 2).changed("numbered", False).with_links([("a", "b"), ("c", "d")]))

    def test_none_for_towns_that_are_not_plain(self):
        for town in small_towns():
            if not is_plain(town):
                self.assertEqual((closed_most(town), closed_loss(town)), (None, None))


class Papers(Raising):
    def test_by_hand(self):
        self.assertEqual(sum_paper(town=LINKED), ("sum", [(["c"], 1), (["a", "b", "d"], 3)], 4))
        self.assertEqual(sum_paper(Town.even(2, 3, 1)), ("sum", [(["a"], 3), (["b"], 3)], 5))
        self.assertEqual(sum_paper(Town.even(2, 3, 0)), ("sum", [(["a"], 3), (["b"], 3)], 5))
        self.assertEqual(sum_paper(Town.even(2, 3, 1).with_links([("a", "b")])), ("sum", [(["a", "b"], 3)], 3))
        self.assertEqual(sum_paper(Town.even(1, 0, 1)), ("sum", [(["a"], 0)], 0))
        linked = Town.even(3, 2, 1).with_links([("a", "c")])
        self.assertEqual(sum_paper(linked), ("sum", [(["a", "c"], 2), (["b"], 2)], 4))
        self.assertEqual(sum_paper(Town([Till("b", 1), Till("a", 0)])), ("sum", [(["b"], 1), (["a"], 0)], 1))
        self.assertEqual(sum_paper(Town.even(1, 2, 1).changed("memory", ("sum", 0))), ("sum", [(["a"], 2)], 1))

    def test_deaf_towns(self):
        for town in (deaf(0), Town([Till("a", 1), Till("b", 0, heeds=False)], money=1)):
            self.assert_raises(BadPart, "part", "heeds", lambda: sum_paper(town))
        self.assertIs(accepts_sum(deaf(1), ("sum", [(["a"], 1)], 99)), False)
        self.assertIs(accepts_sum(deaf(0), ("sum", [(["a"], 0)], 99)), False)

    def test_the_least_number_that_is_accepted(self):
        for town in small_towns() + [LINKED, LARGE]:
            if is_heeding(town):
                word, rows, number = sum_paper(town)
                self.assertIs(accepts_sum(town, (word, rows, number)), True)
                self.assertIs(accepts_sum(town, (word, rows, number - 1)), False)
                self.assertIs(accepts_sum(town, (word, rows, number + 50)), True)
                if town.money or town.tops:
                    self.assertEqual(number, closed_most(town.changed("memory", ("nothing",))))

    def test_what_is_accepted_is_so(self):
        chance = random.Random(3)
        let = 0
        for town in [town for town in small_towns()[::5] if is_heeding(town)]:
            most = most_overspent(town)
            for _ in range(20):
                names = town.names()
                chance.shuffle(names)
                groups = [town.group(name) for name in names if town.group(name)[0] == name]
                rows = [(chance.sample(group, len(group)), max(town[name].limit for name in group) + extra)
                        for group, extra in zip(groups, chance.choices((0, 0, 1, 2, -1), k=len(groups)))]
                paper = ("sum", rows, sum(limit for _, limit in rows) + chance.choice((-2, -1, 0, 1)))
                if accepts_sum(town, paper):
                    let += 1
                    self.assertLessEqual(most, paper[2])
        self.assertGreater(let, 100)

    def test_other_orders_and_kinds(self):
        for paper in [("sum", [(["a", "b", "d"], 3), (["c"], 1)], 4), ("sum", ((("d", "a", "b"), 3), (("c",), 1)), 4),
                      ("sum", ((["d", "a", "b"], 3), (("c",), 1)), 4), ("sum", [(["b", "a", "d"], 9), (["c"], 9)], 18),
                      ("sum", [(["c"], 1), (["a", "b", "d"], 3)], 10 ** 30)]:
            kept = copy.deepcopy(paper)
            self.assertIs(accepts_sum(LINKED, paper), True, paper)
            self.assertEqual(paper, kept)
        self.assertIs(accepts_sum(paper=sum_paper(LINKED), town=LINKED), True)

    def test_single_tills(self):
        town = Town([Till("a", 0), Till("b", 2)])
        self.assertIs(accepts_sum(town, ("sum", [(["a"], 0), (["b"], 2)], 2)), True)
        self.assertIs(accepts_sum(town, ("sum", [(["a"], 0), (["b"], 2)], 1)), False)
        # Told limits above 0 take one off, also where the limit itself is 0.
        self.assertIs(accepts_sum(town, ("sum", [(["a"], 1), (["b"], 2)], 2)), True)
        self.assertIs(accepts_sum(town, ("sum", [(["a"], 1), (["b"], 2)], 1)), False)
        self.assertIs(accepts_sum(Town.even(1, 0, 0), ("sum", [(["a"], 0)], 0)), True)
        self.assertIs(accepts_sum(Town.even(1, 0, 0), ("sum", [(["a"], 0)], -1)), False)
        self.assertIs(accepts_sum(Town.even(1, 1, 0), ("sum", [(["a"], 1)], 0)), True)

    def test_bent_papers(self):
        rows = [(["c"], 1), (["a", "b", "d"], 3)]
        for paper in [("sum", rows, 3), ("sum", rows, 4, None), ("sum", rows), ["sum", rows, 4], ("most", rows, 4),
                      ("Sum", rows, 4), (None, rows, 4), ("sum", dict([(("c",), 1)]), 4), ("sum", rows, True),
                      ("sum", rows, "4"), ("sum", rows, None), ("sum", rows[:1], 4), ("sum", rows[1:], 4),
                      ("sum", rows + rows[:1], 9), ("sum", [rows[0], rows[0]], 9), ("sum", [rows[1], rows[1]], 9),
                      ("sum", [], 9), ("sum", [(["c"], 0), rows[1]], 9), ("sum", [rows[0], (["a", "b", "d"], 2)], 9),
                      ("sum", [(["c"], 10), rows[1]], 20), ("sum", [(["c"], True), rows[1]], 9),
                      ("sum", [["c", 1], rows[1]], 9), ("sum", [[["c"], 1], rows[1]], 9),
                      ("sum", [("c", 1), rows[1]], 9), ("sum", [(["c"], 1, 1), rows[1]], 9),
                      ("sum", [(["c"],), rows[1]], 9), ("sum", [([], 1), rows[1]], 9),
                      ("sum", [(["e"], 1), rows[1]], 9), ("sum", [rows[0], (["a", "b"], 3)], 9),
                      ("sum", [rows[0], (["a", "b", "d", "d"], 3)], 9), ("sum", [rows[0], (["a", "b", "b"], 3)], 9),
                      ("sum", [rows[0], (["a", "b", "c"], 3)], 9), ("sum", [rows[0], (["a", "b", "e"], 3)], 9),
                      ("sum", [(["c", "c"], 1), rows[1]], 9), ("sum", [({"c": 1}, 1), rows[1]], 9),
                      ("sum", [(["c", "a"], 3), (["b", "d"], 3)], 9), ("sum", [(["a", "b", "c", "d"], 3)], 9),
                      ("sum", [rows[0], (["a"], 3), (["b"], 3), (["d"], 3)], 99)]:
            self.assertIs(accepts_sum(LINKED, paper), False, paper)

    def test_any_values(self):
        for value in any_values():
            self.assertIs(accepts_sum(LINKED, value), False)
        for value in odd_values():
            rows = [(["c"], 1), (["a", "b", "d"], 3)]
            for paper in [(value, rows, 4), ("sum", value, 4), ("sum", rows, value), ("sum", [value, rows[1]], 4),
                          ("sum", [(value, 1), rows[1]], 4), ("sum", [(["c"], value), rows[1]], 4),
                          ("sum", [([value], 1), rows[1]], 4), ("sum", [rows[0], (["a", "b", value], 3)], 4),
                          ("sum", [rows[0], ([value, "a", "b"], 3)], 4), ("sum", rows + [value], 4)]:
                self.assertIs(accepts_sum(LINKED, paper), False)

    def test_the_lists_are_new(self):
        paper = sum_paper(LINKED)
        paper[1][0][0].clear()
        paper[1].clear()
        self.assertEqual(sum_paper(LINKED), ("sum", [(["c"], 1), (["a", "b", "d"], 3)], 4))


if __name__ == "__main__":
    unittest.main()
