"""Links from a menu, and how much less can be overspent with them."""

import itertools
import unittest

from cutofftills.errors import BadMenu
from cutofftills.hearing import first_link, link_row, with_link
from cutofftills.tills import Till
from cutofftills.towns import Town
from cutofftills.worst import most_overspent
from odd import any_values, odd_values
from plain import small_towns
from test_graphs import LARGE
from test_limits import Raising
from test_worst import deaf

PAIRS = list(itertools.combinations("abcd", 2))
NO_LINKS = [("b", "a"), ("a", "a"), ("a", "e"), ("a",), ("a", "b", "c"), ["a", "b"], "ab", ("a", None), (1, 2), (),
            (("a",), "b"), None, True, 0]


def all_pairs(town):
    """The links that a town may have and has not."""
    return [pair for pair in itertools.combinations(sorted(town.names()), 2) if pair not in town.links]


def below(most):
    """A key by which numbers are below None."""
    return 100 if most is None else most


class OneLink(Raising):
    def test_a_link_more(self):
        town = Town.even(3, 2, 1)
        self.assertEqual(with_link(town, ("a", "c")), town.with_links([("a", "c")]))
        more = with_link(link=("a", "b"), town=town.with_links([("b", "c")]))
        self.assertEqual(more.links, (("a", "b"), ("b", "c")))
        self.assertEqual(town.links, ())

    def test_all_other_parts_stay(self):
        parts = {"money": 3, "memory": ("sum", 4), "tops": 2, "numbered": False}
        tills = [Till("b", 2), Till("a", 1, heeds=False)]
        self.assertEqual(with_link(Town(tills, **parts), ("a", "b")), Town(tills, links=[("a", "b")], **parts))

    def test_wrong_links(self):
        town = Town.even(4, 1, 1).with_links([("a", "b"), ("c", "d")])
        for link in NO_LINKS + [("a", "b"), ("c", "d")] + any_values():
            self.assert_raises(BadMenu, "index", 0, lambda: with_link(town, link))
        for value in odd_values():
            self.assert_raises(BadMenu, "index", 0, lambda: with_link(town, ("a", value)))


class First(Raising):
    def test_by_hand(self):
        town = Town([Till("a", 1), Till("b", 2), Till("c", 3)], money=1)
        self.assertEqual(most_overspent(town), 5)
        self.assertEqual(first_link(town, [("a", "b"), ("a", "c"), ("b", "c")]), (2, 4))
        self.assertEqual(first_link(town, [("a", "b"), ("a", "c")]), (0, 5))
        self.assertEqual(first_link(town, [("a", "c"), ("a", "b")]), (0, 5))
        self.assertEqual(first_link(menu=[("b", "c")], town=town), (0, 4))
        self.assertIsNone(first_link(town, []))
        self.assertIsNone(first_link(town, ()))

    def test_no_bound(self):
        town = Town([Till("a", 1, heeds=False), Till("b", 1)], money=1)
        self.assertEqual(first_link(town, [("a", "b")]), (0, None))
        self.assertEqual(link_row(town, [("a", "b")]), [])

    def test_small_towns(self):
        found = set()
        for town in small_towns():
            menu = all_pairs(town)
            if len(town) > 2 or (len(town) == 2 and not town.links and town.money == 1):
                mosts = [most_overspent(town.with_links(town.links + (pair,))) for pair in menu]
                least = min(mosts, key=below)
                at = mosts.index(least)
                self.assertEqual(first_link(town, menu), (at, least))
                self.assertEqual(first_link(town, menu[::-1])[1], least)
                found.add(at)
        self.assertGreater(len(found), 2)

    def test_menus(self):
        check_menus(self, first_link)

    def test_the_menu_stays(self):
        menu = [("a", "b"), ("b", "c")]
        first_link(Town.even(3, 1, 1), menu)
        link_row(Town.even(3, 1, 1), menu)
        self.assertEqual(menu, [("a", "b"), ("b", "c")])


def check_menus(case, call):
    """The errors of a menu of up to six links."""
    town = Town.even(4, 0, 0)
    for menu in [None, 0, "ab", {("a", "b"): 1}, {("a", "b")}, iter(PAIRS)] + odd_values():
        case.assert_raises(BadMenu, "index", None, lambda: call(town, menu))
    for menu in [PAIRS + [("a", "b")], PAIRS + [None], [None] * 7, PAIRS * 2]:
        case.assert_raises(BadMenu, "index", None, lambda: call(town, menu))
    call(town, PAIRS)
    call(town, tuple(PAIRS))
    for link in NO_LINKS + [PAIRS[0], PAIRS[2]] + odd_values():
        case.assert_raises(BadMenu, "index", 3, lambda: call(town, PAIRS[:3] + [link, None]))
        case.assert_raises(BadMenu, "index", 0, lambda: call(town.with_links([PAIRS[0], PAIRS[2]]), [link, link]))
    case.assert_raises(BadMenu, "index", 1, lambda: call(town.with_links([PAIRS[1]]), PAIRS))
    case.assert_too_many(lambda: call(LARGE, [("a", "b")]))


class Rows(Raising):
    def test_by_hand(self):
        town = Town([Till("a", 1), Till("b", 2), Till("c", 3)], money=1)
        menu = [("a", "b"), ("a", "c"), ("b", "c")]
        self.assertEqual(link_row(town, menu), [(2, 4), (0, 3)])
        self.assertEqual(link_row(town, menu[:2]), [])
        self.assertEqual(link_row(menu=menu[1:], town=town), [(1, 4), (0, 3)])
        self.assertEqual(link_row(town, []), [])
        even = Town.even(4, 1, 1)
        self.assertEqual([most_overspent(even.with_links(PAIRS[:n])) for n in range(4)], [3, 3, 2, 1])
        self.assertEqual(link_row(even, PAIRS), [])
        even = Town.even(3, 2, 1)
        self.assertEqual(link_row(even, [("b", "c"), ("a", "b"), ("a", "c")]), [(0, 4), (1, 2)])

    def test_as_long_as_it_falls(self):
        longest = 0
        for town in small_towns():
            menu = all_pairs(town)
            if len(town) > 2:
                told = link_row(town, menu)
                self.assertIs(type(told), list)
                self.check_row(town, menu, told)
                longest = max(longest, len(told))
        self.assertGreater(longest, 1)

    def check_row(self, town, menu, told):
        most = most_overspent(town)
        left = list(range(len(menu)))
        for at, found in told:
            mosts = [most_overspent(town.with_links(town.links + (menu[index],))) for index in left]
            least = min(mosts, key=below)
            self.assertEqual((at, found), (left[mosts.index(least)], least))
            self.assertLess(below(found), below(most))
            town = town.with_links(town.links + (menu[at],))
            most = found
            left.remove(at)
        for index in left:
            more = town.with_links(town.links + (menu[index],))
            self.assertGreaterEqual(below(most_overspent(more)), below(most))

    def test_no_link_gives_a_bound(self):
        # A deaf till goes round by itself, whoever hears from it.
        for limits in itertools.product(range(3), repeat=2):
            town = Town([Till("a", limits[0], heeds=False), Till("b", limits[1])], money=1)
            self.assertEqual(most_overspent(town) is None, most_overspent(with_link(town, ("a", "b"))) is None)

    def test_menus(self):
        check_menus(self, link_row)

    def test_the_list_is_new(self):
        link_row(deaf(1), []).append(1)
        self.assertEqual(link_row(deaf(1), []), [])


if __name__ == "__main__":
    unittest.main()
