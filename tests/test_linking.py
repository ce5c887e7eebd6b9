"""The least links of a menu with which a town keeps a wish."""

import itertools
import unittest

from cutofftills.errors import BadMenu, BadWish
from cutofftills.linking import least_links
from cutofftills.tills import Till
from cutofftills.towns import Town
from cutofftills.worst import most_overspent
from odd import odd_values
from plain import small_towns
from test_graphs import LARGE
from test_hearing import NO_LINKS, PAIRS, all_pairs
from test_limits import NO_WISHES, Raising
from test_worst import deaf


def all_least(town, menu, wish):
    """What least_links must tell, by trying all choices."""
    choices = [choice for size in range(len(menu) + 1) for choice in itertools.combinations(range(len(menu)), size)]
    mosts = [most_overspent(town.with_links(town.links + tuple(menu[at] for at in choice))) for choice in choices]
    kept = [choice for choice, most in zip(choices, mosts) if most is not None and most <= wish]
    return [choice for choice in kept if not any(set(other) < set(choice) for other in kept)]


class Least(Raising):
    def test_by_hand(self):
        town = Town.even(3, 2, 1)
        menu = [("b", "c"), ("a", "b"), ("a", "c")]
        self.assertEqual(least_links(town, menu, 5), [()])
        self.assertEqual(least_links(town, menu, 4), [(0,), (1,), (2,)])
        self.assertEqual(least_links(town, menu, 3), [(0, 1), (0, 2), (1, 2)])
        self.assertEqual(least_links(town, menu, 2), [(0, 1), (0, 2), (1, 2)])
        self.assertEqual(least_links(town, menu, 1), [])
        self.assertEqual(least_links(wish=4, menu=tuple(menu[:1]), town=town), [(0,)])
        self.assertEqual(least_links(town.with_links([("a", "b")]), [("b", "c")], 4), [()])

    def test_choices_of_unlike_sizes(self):
        town = Town([Till("a", 1), Till("b", 1), Till("c", 2), Till("d", 0)], money=1)
        menu = [("a", "b"), ("b", "d"), ("c", "d")]
        self.assertEqual(most_overspent(town), 4)
        for wish in range(5):
            self.assertEqual(least_links(town, menu, wish), all_least(town, menu, wish))
        self.assertEqual(least_links(town, menu, 3), [(0,), (1, 2)])

    def test_no_bound(self):
        self.assertEqual(least_links(Town([Till("a", 1, heeds=False), Till("b", 1)]), [("a", "b")], 99), [])

    def test_all_choices_tried(self):
        longest = 0
        for town in [town for town in small_towns()[324:] if len(all_pairs(town)) > 0][::4]:
            menu = all_pairs(town)[:5]
            for wish in (0, 1, 2, 4):
                told = least_links(town, menu, wish)
                self.assertEqual(told, all_least(town, menu, wish))
                self.assertIs(type(told), list)
                self.assertTrue(all(type(choice) is tuple for choice in told))
                longest = max([longest] + [len(choice) for choice in told])
        self.assertGreater(longest, 1)

    def test_menus(self):
        town = Town.even(4, 0, 0)
        for menu in [None, 0, "ab", {("a", "b"): 1}, {("a", "b")}, [], (), PAIRS, [None] * 6] + odd_values():
            self.assert_raises(BadMenu, "index", None, lambda: least_links(town, menu, None))
        for link in NO_LINKS + [PAIRS[0], PAIRS[2]] + odd_values():
            self.assert_raises(BadMenu, "index", 3, lambda: least_links(town, PAIRS[:3] + [link, None], None))
            linked = town.with_links([PAIRS[0], PAIRS[2]])
            self.assert_raises(BadMenu, "index", 0, lambda: least_links(linked, [link, link], None))
        self.assertEqual(least_links(town, PAIRS[:5], 0), [()])

    def test_wishes(self):
        for wish in NO_WISHES:
            for town in (LARGE, Town.even(2, 1, 1)):
                self.assert_raises(BadWish, "wish", wish, lambda: least_links(town, [("a", "b")], wish))

    def test_too_many(self):
        self.assert_too_many(lambda: least_links(LARGE, [("a", "b")], 99))

    def test_what_is_handed_in_stays(self):
        menu = [("a", "b")]
        least_links(Town.even(2, 1, 1), menu, 1).clear()
        self.assertEqual(menu, [("a", "b")])
        self.assertEqual(least_links(Town.even(2, 1, 1), menu, 1), [()])


class Fewer(unittest.TestCase):
    def test_more_links_never_let_more_be_overspent(self):
        for town in small_towns()[324::3]:
            most = most_overspent(town)
            for pair in all_pairs(town):
                more = most_overspent(town.with_links(town.links + (pair,)))
                self.assertTrue(most is None or more is not None and more <= most)
        self.assertIsNone(most_overspent(deaf(1)))


if __name__ == "__main__":
    unittest.main()
