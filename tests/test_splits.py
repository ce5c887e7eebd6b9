"""Splits of a whole, those that keep a wish, and the best ones."""

import itertools
import unittest

from cutofftills.errors import BadWhole, BadWish, TooMany
from cutofftills.splits import best_splits, keeping, splits
from cutofftills.tills import Till
from cutofftills.towns import Town
from cutofftills.worst import most_overspent
from odd import odd_values
from plain import small_towns
from test_graphs import LARGE
from test_limits import NO_WISHES, Raising
from test_worst import deaf

NO_WHOLES = [-1, 37, 10 ** 30, True, False, None, "1", [1], (1,)] + odd_values()


def all_splits(town, whole):
    """What splits must tell, by trying all tuples."""
    return [row for row in itertools.product(range(10), repeat=len(town)) if sum(row) == whole]


class Splits(Raising):
    def test_by_hand(self):
        self.assertEqual(splits(Town.even(2, 0, 0), 1), [(0, 1), (1, 0)])
        self.assertEqual(splits(Town.even(1, 5, 3), 9), [(9,)])
        self.assertEqual(splits(Town.even(1, 0, 0), 10), [])
        self.assertEqual(splits(Town.even(1, 9, 0), 0), [(0,)])
        self.assertEqual(splits(Town.even(2, 0, 0), 17), [(8, 9), (9, 8)])
        self.assertEqual(splits(Town.even(2, 0, 0), 19), [])
        self.assertEqual(splits(LARGE, 36), [(9, 9, 9, 9)])
        self.assertEqual(splits(LARGE, 35), [(8, 9, 9, 9), (9, 8, 9, 9), (9, 9, 8, 9), (9, 9, 9, 8)])
        self.assertEqual(splits(whole=0, town=LARGE), [(0, 0, 0, 0)])

    def test_all_tuples_tried(self):
        for many in range(1, 5):
            town = Town.even(many, 3, 1)
            for whole in range(37):
                expected = all_splits(town, whole)
                if len(expected) > 200:
                    self.assert_too_many(lambda: splits(town, whole), 200)
                else:
                    self.assertEqual(splits(town, whole), expected)

    def test_too_many(self):
        self.assertEqual(len(splits(LARGE, 8)), 165)
        self.assert_too_many(lambda: splits(LARGE, 9), 200)
        self.assert_too_many(lambda: splits(LARGE, 27), 200)
        self.assertEqual(len(splits(LARGE, 28)), 165)
        self.assertEqual(len(splits(Town.even(3, 1, 1), 13)), 75)

    def test_wrong_wholes(self):
        for whole in NO_WHOLES:
            for call in (splits, best_splits, lambda town, whole: keeping(town, whole, 1)):
                self.assert_raises(BadWhole, "whole", whole, lambda: call(Town.even(1, 1, 1), whole))

    def test_the_list_is_new(self):
        splits(Town.even(2, 0, 0), 1).clear()
        self.assertEqual(splits(Town.even(2, 0, 0), 1), [(0, 1), (1, 0)])


class Keeping(Raising):
    def test_by_hand(self):
        self.assertEqual(keeping(Town.even(2, 0, 1), 2, 1), [(1, 1)])
        self.assertEqual(keeping(Town.even(2, 0, 1), 2, 2), [(0, 2), (1, 1), (2, 0)])
        self.assertEqual(keeping(Town.even(2, 0, 1), 2, 0), [])
        self.assertEqual(keeping(Town.even(1, 0, 1), 10, 99), [])
        self.assertEqual(keeping(deaf(0, money=1), 1, 99), [])
        mixed = Town([Till("a", 9, heeds=False), Till("b", 0)], money=1)
        self.assertEqual(keeping(wish=99, whole=2, town=mixed), [(0, 2)])

    def test_all_splits_tried(self):
        for town in small_towns()[333::9]:
            for whole in (1, 2, 3):
                mosts = {row: most_overspent(town.with_limits(row)) for row in all_splits(town, whole)}
                for wish in (0, 1, 2, 5):
                    expected = [row for row, most in mosts.items() if most is not None and most <= wish]
                    self.assertEqual(keeping(town, whole, wish), expected)

    def test_order_of_the_errors(self):
        for wish in NO_WISHES:
            self.assert_raises(BadWish, "wish", wish, lambda: keeping(LARGE, None, wish))
            self.assert_raises(BadWish, "wish", wish, lambda: keeping(LARGE, 18, wish))
        self.assert_raises(BadWhole, "whole", 37, lambda: keeping(LARGE, 37, 1))
        self.assert_too_many(lambda: keeping(LARGE, 18, 1), 200)
        self.assert_too_many(lambda: keeping(LARGE, 36, 99))


class Best(Raising):
    def test_by_hand(self):
        self.assertEqual(best_splits(Town.even(2, 0, 1), 2), (1, [(1, 1)]))
        self.assertEqual(best_splits(Town.even(2, 0, 0), 2), (0, [(0, 2), (1, 1), (2, 0)]))
        self.assertEqual(best_splits(Town.even(2, 0, 1).with_links([("a", "b")]), 3), (2, [(1, 2), (2, 1)]))
        self.assertEqual(best_splits(whole=0, town=Town.even(3, 9, 9)), (0, [(0, 0, 0)]))

    def test_no_bound(self):
        self.assertEqual(best_splits(deaf(0), 1), (None, []))
        self.assertEqual(best_splits(Town([Till(name, 0, heeds=False) for name in "ab"]), 2), (None, []))
        mixed = Town([Till("a", 9, heeds=False), Till("b", 0)], money=1)
        self.assertEqual(best_splits(mixed, 2), (2, [(0, 2)]))
        # Without a split there is no bound with any of them.
        self.assertEqual(best_splits(Town.even(1, 0, 1), 10), (None, []))

    def test_all_splits_tried(self):
        several = 0
        for town in small_towns()[334::9]:
            for whole in (0, 1, 2, 3):
                mosts = {row: most_overspent(town.with_limits(row)) for row in all_splits(town, whole)}
                bounded = [most for most in mosts.values() if most is not None]
                least = min(bounded) if bounded else None
                best = [row for row, most in mosts.items() if most == least] if bounded else []
                told = best_splits(town, whole)
                self.assertEqual(told, (least, best))
                self.assertEqual((type(told), type(told[1])), (tuple, list))
                several += 1 < len(best) < len(mosts)
        self.assertGreater(several, 3)

    def test_too_many(self):
        self.assert_too_many(lambda: best_splits(LARGE, 18), 200)
        self.assert_too_many(lambda: best_splits(LARGE, 36))

    def test_the_list_is_new(self):
        best_splits(deaf(0), 1)[1].append((1,))
        self.assertEqual(best_splits(deaf(0), 1), (None, []))


if __name__ == "__main__":
    unittest.main()
