"""The form of events, and the list of all events of a town."""

import unittest

from cutofftills.events import events_of, is_event
from cutofftills.tills import Till
from cutofftills.towns import Town
from odd import any_values, odd_values


def town_of(*names, **parts):
    return Town([Till(name, 1) for name in names], **parts)


class Form(unittest.TestCase):
    def test_events_of_tills(self):
        town = town_of("b", "abcdefgh")
        for word in ("cut", "line", "again"):
            for name in ("b", "abcdefgh"):
                self.assertIs(is_event(town, (word, name)), True)
            for name in ("a", "B", "", None, 1, True, ("b",), ["b"], b"b"):
                self.assertIs(is_event(town, (word, name)), False)
            self.assertIs(is_event(town, (word,)), False)
            self.assertIs(is_event(town, (word, "b", 1)), False)
            self.assertIs(is_event(town, (word, "b", "b")), False)
            self.assertIs(is_event(town, (word, 1)), False)

    def test_payments(self):
        town = town_of("b", "c")
        for units in range(-2, 5):
            self.assertIs(is_event(town, ("pay", "c", units)), units in (1, 2))
        for units in (True, False, None, "1", (1,), [1], b"1"):
            self.assertIs(is_event(town, ("pay", "c", units)), False)
        for name in ("a", "", None, 1, ("c",), ["c"]):
            self.assertIs(is_event(town, ("pay", name, 1)), False)
        for value in [("pay",), ("pay", "c"), ("pay", 1), ("pay", "c", 1, 1), ("pay", 1, "c"), ("pays", "c", 1)]:
            self.assertIs(is_event(town, value), False)

    def test_top_ups(self):
        for tops in (0, 5):
            town = town_of("b", tops=tops)
            for units in range(-2, 5):
                self.assertIs(is_event(town, ("top", units)), units in (1, 2))
            for units in (True, False, None, "1", (1,), "b"):
                self.assertIs(is_event(town, ("top", units)), False)
            self.assertIs(is_event(town, ("top",)), False)
            self.assertIs(is_event(town, ("top", "b", 1)), False)
            self.assertIs(is_event(town, ("top", 1, 1)), False)

    def test_the_loss(self):
        town = town_of("lose", "cut")
        self.assertIs(is_event(town, ("lose",)), True)
        for value in [("lose", "lose"), ("lose", 1), ("loss",), ("cut",), "lose", ["lose"], ("lose", None), ()]:
            self.assertIs(is_event(town, value), False)

    def test_agains_are_events_of_numbered_towns_too(self):
        self.assertIs(is_event(town_of("a", numbered=True), ("again", "a")), True)
        self.assertIs(is_event(town_of("a", numbered=False), ("again", "a")), True)

    def test_a_list_is_no_event(self):
        town = town_of("a")
        for event in events_of(town):
            self.assertIs(is_event(town, event), True)
            self.assertIs(is_event(town, list(event)), False)

    def test_any_values(self):
        town = town_of("a", "b")
        for value in any_values():
            self.assertIs(is_event(town, value), False)
        for value in odd_values():
            for event in [(value,), ("cut", value), ("line", value), ("again", value), ("top", value),
                          ("pay", value, 1), ("pay", "a", value), (value, "a"), (value, "a", 1), ("lose", value)]:
                self.assertIs(is_event(town, event), False)

    def test_by_name(self):
        self.assertIs(is_event(value=("cut", "a"), town=town_of("a")), True)


class All(unittest.TestCase):
    def test_one_till(self):
        expected = [("cut", "q"), ("line", "q"), ("pay", "q", 1), ("pay", "q", 2),
                    ("top", 1), ("top", 2), ("lose",), ("again", "q")]
        for town in (town_of("q"), town_of("q", tops=5, money=9), town_of("q", numbered=False),
                     Town([Till("q", 0, heeds=False)])):
            self.assertEqual(events_of(town), expected)

    def test_tills_in_the_order_of_the_town(self):
        town = town_of("c", "a", "b", links=[("a", "c")])
        self.assertEqual(events_of(town), [
            ("cut", "c"), ("cut", "a"), ("cut", "b"), ("line", "c"), ("line", "a"), ("line", "b"),
            ("pay", "c", 1), ("pay", "c", 2), ("pay", "a", 1), ("pay", "a", 2), ("pay", "b", 1), ("pay", "b", 2),
            ("top", 1), ("top", 2), ("lose",), ("again", "c"), ("again", "a"), ("again", "b")])

    def test_four_tills(self):
        events = events_of(Town.even(4, 9, 9))
        self.assertEqual(len(events), 23)
        self.assertEqual(len(set(events)), 23)

    def test_each_is_an_event_and_no_other_small_tuple_is(self):
        town = town_of("b", "a")
        parts = ["cut", "line", "pay", "top", "lose", "again", "a", "b", "c", 0, 1, 2, 3, True, None]
        values = [(one,) for one in parts] + [(one, two) for one in parts for two in parts]
        values += [(one, two, three) for one in parts for two in parts for three in parts]
        found = [value for value in values if is_event(town, value)]
        self.assertEqual(sorted(found, key=repr), sorted(events_of(town), key=repr))

    def test_the_list_is_new(self):
        town = town_of("a")
        events = events_of(town)
        events.clear()
        self.assertEqual(len(events_of(town)), 8)
        self.assertIs(type(events), list)

    def test_by_name(self):
        self.assertEqual(len(events_of(town=town_of("a"))), 8)


if __name__ == "__main__":
    unittest.main()
