"""Clocks: days that each till begins by its own clock."""

import random
import unittest

from cutofftills.days import Clocks, closed_days, has_bound
from cutofftills.errors import BadEvent, BadPart, BadTown
from cutofftills.sums import is_plain
from cutofftills.tills import Till
from cutofftills.towns import Town
from cutofftills.worst import most_overspent
from odd import any_values, odd_values
from plaincards import PlainClocks, card_towns, plain_most, plain_table, random_ways
from test_graphs import LARGE
from test_limits import Raising

TOWN = Town.even(2, 3, 2).changed("tops", 1)
ONE = Clocks(TOWN, days=1)
FIRST = (((True, True), (0, 0), (False, False), 0, 2, False, 1), (0, 0), 1)
CUT, DAY = ("cut", "a"), ("day", "a")


class Class(Raising):
    def test_attributes(self):
        self.assertEqual((ONE.town, ONE.days), (TOWN, 1))
        self.assertIsNone(Clocks(town=TOWN).days)
        self.assertEqual([Clocks(TOWN, days=days).days for days in (0, 5, None)], [0, 5, None])

    def test_equal(self):
        self.assertIs(Clocks(TOWN, days=1) == ONE, True)
        self.assertIs(Clocks(TOWN) == Clocks(TOWN, days=None), True)
        self.assertIs(Clocks(TOWN, days=0) == Clocks(TOWN), False)
        self.assertIs(Clocks(TOWN, days=0) != Clocks(TOWN), True)
        self.assertIs(Clocks(TOWN.changed("tops", 2), days=1) == ONE, False)
        for value in any_values() + [TOWN, 1]:
            self.assertIs(ONE == value, False)

    def test_wrong_values(self):
        for value in any_values() + [Till("a", 1), Town]:
            self.assert_raises(BadTown, "town", value, lambda: Clocks(value, days=-1))
        for value in odd_values()[1:] + [6, -1, True, False, "1", [1], (1,)]:
            self.assert_raises(BadPart, "part", "days", lambda: Clocks(TOWN, days=value))
        with self.assertRaises(TypeError):
            Clocks(TOWN, 1)


class Steps(Raising):
    def test_events(self):
        self.assertEqual(ONE.all_events(), [
            ("cut", "a"), ("cut", "b"), ("line", "a"), ("line", "b"), ("pay", "a", 1), ("pay", "a", 2),
            ("pay", "b", 1), ("pay", "b", 2), ("top", 1), ("top", 2), ("lose",), ("day", "a"), ("day", "b")])
        ONE.all_events().clear()
        self.assertEqual(len(ONE.all_events()), 13)

    def test_first_and_choices(self):
        self.assertEqual(ONE.first(), FIRST)
        self.assertIsNone(Clocks(TOWN).first()[2])
        events = ONE.all_events()
        self.assertEqual(ONE.choices(FIRST), events[:2] + events[4:9] + [("lose",)])
        cut = ONE.after(FIRST, CUT)[0]
        self.assertEqual(ONE.choices(state=cut), [events[1], events[2]] + events[4:9] + [("lose",), DAY])
        self.assertNotIn(DAY, ONE.choices(ONE.after(cut, DAY)[0]))

    def test_by_hand(self):
        events = [CUT, ("pay", "a", 2), ("pay", "a", 2), ("pay", "a", 1), DAY, ("pay", "a", 2), ("cut", "b"),
                  ("pay", "b", 2)]
        state, words, overspent = ONE.play(events)
        self.assertEqual(words, ["done", "taken", "limit", "taken", "done", "taken", "done", "taken"])
        # Not more than money and twice tops, 4, is told as untold.
        self.assertEqual(state, (((False, False), (4, 2), (False, False), 0, 2, False, 1), (2, 2), 0))
        self.assertEqual(overspent, 5)
        self.assertEqual(ONE.after(state, ("line", "a"))[0],
                         (((True, False), (0, 2), (False, False), 0, -1, False, 1), (0, 2), 0))

    def test_groups_count_together(self):
        clocks = Clocks(TOWN.with_links([("a", "b")]), days=2)
        events = [CUT, ("cut", "b"), ("pay", "a", 2), ("pay", "b", 2), ("day", "b"), ("pay", "b", 2), DAY,
                  ("pay", "b", 2), ("pay", "b", 1), ("pay", "a", 1)]
        self.assertEqual(clocks.play(events)[1], ["done", "done", "taken", "limit", "done", "limit", "done", "taken",
                                                  "taken", "limit"])

    def test_always(self):
        clocks = Clocks(Town.even(1, 1, 1))
        state, words, overspent = clocks.play([CUT] + [("pay", "a", 1), DAY] * 20)
        self.assertEqual((state, set(words[1:]), overspent), (
            (((False,), (1,), (False,), 0, 1, False, 0), (0,), None), {"taken", "done"}, 19))

    def test_after_any_value(self):
        cut = ONE.after(FIRST, CUT)[0]
        for value in any_values() + [CUT, ("day", "b"), ("day", "c"), ("day",), ("day", "a", 1), ("again", "a"),
                                     ["day", "a"], ("line", "b"), ("top", 2), ("pay", "a", 3), ("Day", "a")]:
            self.assert_raises(BadEvent, "index", value, lambda: ONE.after(cut, value))
            self.assert_raises(BadEvent, "index", 1, lambda: ONE.play([CUT, value]))
        for value in odd_values():
            for event in [(value, "a"), ("day", value), ("pay", value, 1)]:
                self.assert_raises(BadEvent, "index", event, lambda: ONE.after(cut, event))
        self.assertEqual(ONE.after(event=DAY, state=cut)[1], "done")
        spent = ONE.after(cut, DAY)[0]
        self.assert_raises(BadEvent, "index", DAY, lambda: ONE.after(spent, DAY))
        self.assert_raises(BadEvent, "index", DAY, lambda: Clocks(TOWN).after(Clocks(TOWN).first(), DAY))

    def test_play_takes_lists(self):
        for value in odd_values() + [1, "", True]:
            self.assert_raises(BadEvent, "index", None, lambda: ONE.play(value))
        self.assertEqual(ONE.play(events=()), (FIRST, [], 0))
        self.assert_raises(BadEvent, "index", 2, lambda: ONE.play([CUT, DAY, DAY, None]))

    def test_random_ways(self):
        chance = random.Random(16)
        for number, town in enumerate(card_towns(5, 120, tills=4, limit=9)):
            days = (None, 0, 1, 5)[number % 4]
            clocks = Clocks(town, days=days)
            events, plains = random_ways(PlainClocks(town, days), chance, 30)
            words = []
            for event, ahead, behind in zip(events, plains, plains[1:]):
                self.assertEqual(clocks.choices(ahead.state()), [one for one in ahead.all_events() if ahead.can(one)])
                words.append(ahead.twin().do(event))
                self.assertEqual(clocks.after(ahead.state(), event), (behind.state(), words[-1]))
            last = plains[-1]
            overspent = max(0, last.paid - town.money - last.topped)
            self.assertEqual(clocks.play(events), (last.state(), words, overspent))


class Most(Raising):
    def check(self, clocks):
        first = PlainClocks(clocks.town, clocks.days)
        most, fewest = plain_most(first, plain_table(first))
        self.assertEqual(clocks.most(), most)
        told = clocks.most_run()
        self.assertEqual([len(told), type(told), type(told[0]), type(told[1])], [2, tuple, list, list])
        if most is not None:
            self.assertEqual((clocks.play(told[0])[2], len(told[0]), told[1]), (most, fewest, []))
            return most
        lead, ring = told
        self.assertEqual(clocks.play(lead)[0], clocks.play(lead + ring)[0])
        words = clocks.play(lead + ring)[1][len(lead):]
        paid = sum(event[2] for event, word in zip(ring, words) if word == "taken")
        self.assertGreater(paid, sum(event[1] for event in ring if event[0] == "top"))
        return most

    def test_against_all_runs(self):
        unbounded = 0
        for number, town in enumerate(card_towns(19, 120, limit=2, tops=(0, 0, 1))):
            unbounded += self.check(Clocks(town, days=(None, 0, 1, 2)[number % 4])) is None
        self.assertTrue(10 < unbounded < 100)

    def test_no_days(self):
        for town in card_towns(19, 40):
            self.assertEqual(Clocks(town, days=0).most(), most_overspent(town))

    def test_by_hand(self):
        self.assertEqual([Clocks(Town.even(1, 2, 1), days=days).most() for days in range(6)], [1, 3, 5, 7, 9, 11])
        self.assertIsNone(Clocks(Town.even(1, 1, 1)).most())
        self.assertEqual(Clocks(Town.even(1, 0, 1)).most(), 0)
        self.assertEqual(Clocks(Town.even(1, 9, 0)).most_run(), ([], []))
        self.assertEqual(Clocks(Town.even(1, 9, 1).changed("memory", ("sum", 3))).most(), 2)

    def test_too_many(self):
        self.assert_too_many(Clocks(LARGE).most)
        self.assert_too_many(Clocks(LARGE, days=1).most_run)


class Closed(Raising):
    def test_by_hand(self):
        self.assertEqual(closed_days(clocks=ONE), 8)
        self.assertEqual(closed_days(Clocks(TOWN.with_links([("a", "b")]), days=2)), 9)
        self.assertEqual(closed_days(Clocks(Town([Till("a", 0), Till("b", 4)], money=1), days=5)), 24)
        self.assertEqual(closed_days(Clocks(Town.even(2, 3, 0), days=5)), 0)
        self.assertEqual(closed_days(Clocks(LARGE, days=5)), 80)
        self.assertIsNone(closed_days(Clocks(TOWN)))
        self.assertIsNone(closed_days(Clocks(TOWN.changed("memory", ("times", 9)), days=1)))
        self.assertIsNone(closed_days(Clocks(Town([Till("a", 1, heeds=False)]), days=1)))

    def test_bounds(self):
        for clocks, expected in [(ONE, True), (Clocks(TOWN), False), (Clocks(Town.even(2, 0, 9)), True),
                                 (Clocks(Town.even(2, 9, 0)), True), (Clocks(Town.even(2, 9, 0), days=3), True),
                                 (Clocks(Town.even(2, 9, 0).changed("tops", 1)), False),
                                 (Clocks(TOWN.changed("memory", ("times", 0))), None),
                                 (Clocks(Town([Till("a", 1), Till("b", 0, heeds=False)]), days=1), None)]:
            self.assertIs(has_bound(clocks=clocks), expected)

    def test_they_tell_the_most(self):
        for number, town in enumerate(card_towns(20, 80)):
            clocks = Clocks(town, days=(None, 0, 1, 2)[number % 4])
            if not is_plain(town):
                self.assertEqual((closed_days(clocks), has_bound(clocks)), (None, None))
                continue
            self.assertIs(has_bound(clocks), clocks.most() is not None)
            self.assertEqual(closed_days(clocks), None if clocks.days is None else clocks.most())


if __name__ == "__main__":
    unittest.main()
