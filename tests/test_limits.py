"""Wishes, the greatest limits with which they are kept, and runs that overspend."""

import itertools
import unittest

from cutofftills.errors import BadPart, BadWish, TooMany
from cutofftills.limits import best_limits, foes, keeps_wish
from cutofftills.runs import Run
from cutofftills.tills import Till
from cutofftills.towns import Town
from cutofftills.worst import most_overspent
from odd import any_values, odd_values
from plain import small_towns
from test_graphs import LARGE, just_too_large
from test_worst import deaf

NO_WISHES = [-1, 100, 10 ** 30, True, False, None, "1", [1], (1,)] + odd_values()
NO_MOSTS = [-1, 10, True, False, None, "1", [1], (1,)] + odd_values()


class Raising(unittest.TestCase):
    def assert_raises(self, error, attribute, value, call):
        with self.assertRaises(error) as caught:
            call()
        self.assertIs(type(caught.exception), error)
        if isinstance(value, (int, str, tuple)):
            self.assertEqual(getattr(caught.exception, attribute), value)
        else:
            self.assertIs(getattr(caught.exception, attribute), value)

    def assert_too_many(self, call, limit=20000):
        self.assert_raises(TooMany, "limit", limit, call)


class Wishes(Raising):
    def test_the_most_and_the_wish(self):
        for town in (Town.even(2, 3, 1), Town.even(1, 3, 1), Town.even(1, 0, 1), Town.even(2, 3, 0)):
            most = most_overspent(town)
            for wish in (0, 1, 2, 3, 4, 5, 6, 99):
                self.assertIs(keeps_wish(town, wish), most <= wish)
        self.assertIs(keeps_wish(Town.even(2, 3, 1), 4), False)
        self.assertIs(keeps_wish(Town.even(2, 3, 1), 5), True)
        self.assertIs(keeps_wish(wish=0, town=Town.even(1, 0, 9)), True)

    def test_no_bound(self):
        for wish in (0, 1, 99):
            self.assertIs(keeps_wish(deaf(1), wish), False)
        self.assertIs(keeps_wish(deaf(9, memory=("sum", 4)), 4), True)

    def test_wrong_wishes(self):
        for town in (Town.even(1, 1, 1), deaf(1), LARGE):
            for wish in NO_WISHES:
                self.assert_raises(BadWish, "wish", wish, lambda: keeps_wish(town, wish))

    def test_too_many(self):
        for town in (just_too_large(), LARGE):
            self.assert_too_many(lambda: keeps_wish(town, 3))


def reaches(one, other):
    return all(limit >= less for limit, less in zip(one, other))


def all_best(town, wish, most):
    """What best_limits must tell, by trying all tuples."""
    rows = list(itertools.product(range(most + 1), repeat=len(town)))
    mosts = [most_overspent(town.with_limits(row)) for row in rows]
    kept = [row for row, found in zip(rows, mosts) if found is not None and found <= wish]
    return [row for row in kept if not any(other != row and reaches(other, row) for other in kept)]


class Best(Raising):
    def test_by_hand(self):
        self.assertEqual(best_limits(Town.even(1, 3, 1), 2, 9), [(3,)])
        self.assertEqual(best_limits(Town.even(1, 3, 1), 2, 2), [(2,)])
        self.assertEqual(best_limits(Town.even(2, 0, 1), 2, 5), [(1, 2), (2, 1)])
        self.assertEqual(best_limits(Town.even(2, 9, 0), 0, 4), [(4, 4)])
        self.assertEqual(best_limits(Town.even(2, 9, 1).with_links([("a", "b")]), 3, 6), [(3, 3)])
        self.assertEqual(best_limits(deaf(1, money=1), 99, 9), [(0,)])
        self.assertEqual(best_limits(Town([Till("a", 5, heeds=False), Till("b", 5)], money=1), 3, 3), [(0, 3)])
        self.assertEqual(best_limits(Town.even(2, 3, 1), 99, 0), [(0, 0)])

    def test_all_tuples_tried(self):
        several = 0
        towns = small_towns()
        for town in towns[:324:20] + towns[333::3]:
            most = {1: 5, 2: 2, 3: 1, 4: 1}[len(town)]
            for wish in (0, 2, 3):
                told = best_limits(town, wish, most)
                self.assertEqual(told, all_best(town, wish, most))
                self.assertEqual({(type(told), type(row), len(row)) for row in told}, {(list, tuple, len(town))})
                several += len(told) > 1
        self.assertGreater(several, 10)

    def test_the_limits_of_the_town_do_not_matter(self):
        town = Town.even(2, 9, 2).changed("memory", ("sum", 3))
        self.assertEqual(best_limits(town, 2, 4), best_limits(town.with_limits([0, 1]), 2, 4))

    def test_by_name(self):
        town = Town.even(2, 1, 1)
        self.assertEqual(best_limits(most=2, wish=2, town=town), [(1, 2), (2, 1)])

    def test_order_of_the_errors(self):
        town = Town.even(4, 1, 1)
        for wish in NO_WISHES:
            self.assert_raises(BadWish, "wish", wish, lambda: best_limits(town, wish, None))
        for most in NO_MOSTS:
            self.assert_raises(BadPart, "part", "most", lambda: best_limits(town, 0, most))

    def test_too_many_tuples(self):
        for many, most in ((4, 4), (4, 9), (3, 6), (3, 9)):
            self.assert_too_many(lambda: best_limits(Town.even(many, 1, 0), 0, most), 256)
        self.assertEqual(best_limits(Town.even(4, 9, 0), 0, 3), [(3, 3, 3, 3)])
        self.assertEqual(best_limits(Town.even(3, 9, 0), 0, 5), [(5, 5, 5)])
        self.assertEqual(best_limits(Town.even(2, 9, 0), 0, 9), [(9, 9)])

    def test_too_many_states(self):
        town = Town([Till(name, 0, heeds=False) for name in "abcd"], money=9, memory=("sum", 9), tops=5)
        self.assert_too_many(lambda: best_limits(town, 99, 3))

    def test_the_list_is_new(self):
        town = Town.even(1, 3, 1)
        best_limits(town, 2, 9).clear()
        self.assertEqual(best_limits(town, 2, 9), [(3,)])


class Foes(Raising):
    def check(self, town, limits, wish, most):
        told = foes(town, limits, wish, most)
        self.assertIs(type(told), dict)
        names = [name for name, limit in zip(town.names(), limits) if limit < most]
        self.assertEqual(list(told), names)
        for name, events in told.items():
            raised = [limit + (one == name) for one, limit in zip(town.names(), limits)]
            self.check_foe(town.with_limits(raised), wish, events)
        return told

    def check_foe(self, town, wish, events):
        most = most_overspent(town)
        if most is not None and most <= wish:
            self.assertIsNone(events)
            return
        self.assertIs(type(events), list)
        self.assertEqual([event for event in events if event[0] == "again"], [])
        self.assertGreater(Run(town, events).overspent(), wish)

    def test_by_hand(self):
        self.assertEqual(foes(Town.even(1, 9, 1), [3], 2, 3), {})
        self.assertEqual(foes(Town.even(1, 9, 1), [2], 2, 3), {"a": None})
        told = self.check(Town.even(2, 9, 1), [2, 1], 2, 2)
        self.assertEqual(list(told), ["b"])
        self.assertIsNotNone(told["b"])
        self.assertEqual(foes(Town.even(2, 9, 0), (2, 1), 0, 3), {"a": None, "b": None})
        self.assertEqual(foes(Town.even(2, 9, 1), [9, 9], 0, 9), {})
        self.assertEqual(foes(Town.even(2, 9, 1), [5, 9], 0, 4), {})
        self.assertEqual(list(self.check(Town.even(2, 9, 1), [8, 9], 0, 9)), ["a"])

    def test_some_hundreds(self):
        found = {True: 0, False: 0}
        for number, town in enumerate(small_towns()[::11]):
            for wish in (0, 2, 99):
                limits = [(number + 2 * at) % 3 for at in range(len(town))]
                for events in self.check(town, limits, wish, 2).values():
                    found[events is None] += 1
        self.assertGreater(min(found.values()), 30)

    def test_no_bound(self):
        for town in (deaf(1), deaf(1, tops=5, money=9), deaf(1, numbered=False)):
            for wish in (0, 1, 50, 99):
                self.assertGreater(Run(town, foes(town, [0], wish, 1)["a"]).overspent(), wish)

    def test_best_limits_have_foes_alone(self):
        town = Town.even(2, 9, 1)
        for limits in best_limits(town, 3, 3):
            self.assertNotIn(None, foes(town, limits, 3, 3).values())

    def test_by_name(self):
        self.assertEqual(foes(most=3, wish=2, limits=[2], town=Town.even(1, 9, 1)), {"a": None})

    def test_order_of_the_errors(self):
        town = Town.even(2, 1, 1)
        for limits in [[], [1], [1, 1, 1], [1, 10], [-1, 1], [1, True], None, "11"] + any_values():
            self.assert_raises(BadPart, "part", "limits", lambda: foes(town, limits, None, None))
        for wish in NO_WISHES:
            self.assert_raises(BadWish, "wish", wish, lambda: foes(town, [1, 1], wish, None))
        for most in NO_MOSTS:
            self.assert_raises(BadPart, "part", "most", lambda: foes(town, [1, 1], 0, most))

    def test_too_many(self):
        self.assert_too_many(lambda: foes(LARGE, [9, 9, 9, 8], 99, 9))

    def test_what_is_handed_in_stays(self):
        limits = [1, 0]
        foes(Town.even(2, 9, 1), limits, 0, 3)["a"].clear()
        self.assertEqual(limits, [1, 0])
        self.check(Town.even(2, 9, 1), limits, 0, 3)


if __name__ == "__main__":
    unittest.main()
