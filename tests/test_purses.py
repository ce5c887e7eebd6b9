"""Purses: several cards of one purse."""

import random
import unittest

from cutofftills.errors import BadEvent, BadPart, BadTown
from cutofftills.purses import Purse, closed_shared, gift, shared_sum
from cutofftills.sums import is_plain
from cutofftills.tills import Till
from cutofftills.towns import Town
from cutofftills.worst import most_overspent
from odd import any_values, odd_values
from plaincards import PlainPurse, card_towns, plain_most, plain_table, random_ways
from test_graphs import LARGE
from test_limits import Raising

TWO = Purse(Town.even(2, 3, 2).changed("tops", 1), 2)
FIRST = ((True, True), (((0, 0), (False, False), 0, False),) * 2, 2, 1)


class Class(Raising):
    def test_attributes(self):
        self.assertEqual((TWO.town, TWO.cards), (Town.even(2, 3, 2).changed("tops", 1), 2))
        self.assertEqual(Purse(cards=1, town=LARGE).cards, 1)

    def test_equal(self):
        town = Town.even(1, 1, 1)
        self.assertIs(Purse(town, 1) == Purse(Town.even(1, 1, 1), 1), True)
        self.assertIs(Purse(town, 1) == Purse(town, 2), False)
        self.assertIs(Purse(town, 1) != Purse(town, 2), True)
        self.assertIs(Purse(town, 1) == Purse(Town.even(1, 1, 2), 1), False)
        for value in any_values() + [town, 1]:
            self.assertIs(Purse(town, 1) == value, False)

    def test_wrong_values(self):
        for value in any_values() + [Till("a", 1), Town]:
            self.assert_raises(BadTown, "town", value, lambda: Purse(value, None))
        for value in odd_values() + [0, 3, -1, 10 ** 30, True, False, "1", (1,), [1]]:
            self.assert_raises(BadPart, "part", "cards", lambda: Purse(Town.even(1, 1, 1), value))


class Steps(Raising):
    def test_events(self):
        self.assertEqual(TWO.all_events(), [
            ("cut", "a"), ("cut", "b"), ("line", "a"), ("line", "b"),
            ("pay", 0, "a", 1), ("pay", 0, "a", 2), ("pay", 0, "b", 1), ("pay", 0, "b", 2),
            ("pay", 1, "a", 1), ("pay", 1, "a", 2), ("pay", 1, "b", 1), ("pay", 1, "b", 2),
            ("top", 1), ("top", 2), ("lose", 0), ("lose", 1)])
        self.assertEqual(Purse(Town.even(1, 1, 1), 1).all_events(), [
            ("cut", "a"), ("line", "a"), ("pay", 0, "a", 1), ("pay", 0, "a", 2), ("top", 1), ("top", 2), ("lose", 0)])
        TWO.all_events().clear()
        self.assertEqual(len(TWO.all_events()), 16)

    def test_first_and_choices(self):
        self.assertEqual(TWO.first(), FIRST)
        events = TWO.all_events()
        self.assertEqual(TWO.choices(state=FIRST), events[:2] + events[4:13] + events[14:])
        self.assertEqual(gift([1], 4).first(), ((True,), (((0,), (False,), 0, False),), 4, 0))

    def test_by_hand(self):
        state, words, overspent = TWO.play([
            ("cut", "a"), ("pay", 0, "a", 2), ("pay", 1, "a", 2), ("pay", 0, "a", 2), ("pay", 1, "a", 1), ("lose", 1),
            ("pay", 1, "b", 1), ("pay", 0, "b", 1), ("cut", "b"), ("pay", 1, "b", 1), ("pay", 0, "b", 2), ("top", 1)])
        self.assertEqual(words, ["done", "taken", "taken", "limit", "taken", "done", "house", "taken", "done", "list",
                                 "taken", "done"])
        self.assertEqual(state, ((False, False), (((2, 2), (False, False), 0, False),
                                                  ((3, 0), (False, True), 0, True)), 2, 0))
        self.assertEqual(overspent, 5)
        behind = TWO.after(state, ("line", "a"))
        self.assertEqual(behind, (((True, False), (((0, 2), (False, False), 0, False),
                                                   ((0, 0), (False, True), 0, True)), 0, 0), "done"))

    def test_tops_as_long_as_not_all_are_lost(self):
        events = [("cut", "a"), ("pay", 0, "a", 2), ("pay", 1, "a", 2), ("line", "a"), ("lose", 0)]
        state = TWO.play(events)[0]
        self.assertEqual(state[2:], (-1, 1))
        self.assertIn(("top", 1), TWO.choices(state))
        state = TWO.play(events + [("lose", 1)])[0]
        self.assertEqual(state[2:], (0, 0))
        self.assertNotIn(("top", 1), TWO.choices(state))
        self.assertEqual([event for event in TWO.choices(state) if event[0] == "lose"], [])

    def test_each_card_remembers_by_itself(self):
        purse = Purse(Town.even(1, 9, 4).changed("memory", ("times", 1)), 2)
        events = [("cut", "a"), ("pay", 0, "a", 1), ("pay", 0, "a", 1), ("pay", 1, "a", 2), ("pay", 1, "a", 1),
                  ("line", "a"), ("pay", 1, "a", 1), ("cut", "a"), ("pay", 0, "a", 1), ("pay", 1, "a", 1)]
        self.assertEqual(purse.play(events=events)[1], ["done", "taken", "memory", "taken", "memory", "done", "taken",
                                                        "done", "list", "list"])
        purse = Purse(Town.even(1, 9, 5).changed("memory", ("times", 1)), 2)
        self.assertEqual(purse.play(events)[1][-2:], ["memory", "taken"])

    def test_after_any_value(self):
        cut = TWO.after(FIRST, ("cut", "a"))[0]
        for value in any_values() + [
                ("cut", "a"), ("line", "b"), ("cut", "c"), ("pay", "b", 1), ("pay", 2, "b", 1), ("pay", -1, "b", 1),
                ("pay", True, "b", 1), ("pay", 0, "c", 1), ("pay", 0, "b", 3), ("pay", 0, "b", True), ("top", 2),
                ("top", True), ("lose",), ("lose", 2), ("lose", 0, 0), ("lose", 0, "a", 1), ("lose", "a"), ("lose", False), ("again", "a"),
                ["cut", "b"], ("pay", 0, "b"), ("pay", 0, "b", 1, 1), ("Cut", "b"), ("day", "a")]:
            self.assert_raises(BadEvent, "index", value, lambda: TWO.after(cut, value))
            self.assert_raises(BadEvent, "index", 1, lambda: TWO.play([("cut", "a"), value]))
        for value in odd_values():
            for event in [(value, "a"), ("cut", value), ("pay", value, "a", 1), ("pay", 0, value, 1),
                          ("pay", 0, "a", value), ("lose", value), ("top", value)]:
                self.assert_raises(BadEvent, "index", event, lambda: TWO.after(FIRST, event))
        self.assertEqual(TWO.after(event=("lose", 1), state=FIRST)[1], "done")

    def test_play_takes_lists(self):
        for value in odd_values() + [1, "", True, {}]:
            self.assert_raises(BadEvent, "index", None, lambda: TWO.play(value))
        self.assertEqual(TWO.play([]), (FIRST, [], 0))
        self.assertEqual(TWO.play((("lose", 0),))[1], ["done"])
        self.assert_raises(BadEvent, "index", 2, lambda: TWO.play([("lose", 0), ("lose", 1), ("lose", 0), None]))

    def test_random_ways(self):
        chance = random.Random(15)
        for number, town in enumerate(card_towns(4, 120, tills=4, limit=9)):
            cards = 1 + number % 2
            purse = Purse(town, cards)
            events, plains = random_ways(PlainPurse(town, cards), chance, 30)
            words = []
            for event, ahead, behind in zip(events, plains, plains[1:]):
                self.assertEqual(purse.choices(ahead.state()), [one for one in ahead.all_events() if ahead.can(one)])
                words.append(ahead.twin().do(event))
                self.assertEqual(purse.after(ahead.state(), event), (behind.state(), words[-1]))
            last = plains[-1]
            overspent = max(0, last.paid - town.money - last.topped)
            self.assertEqual(purse.play(events), (last.state(), words, overspent))


class Most(Raising):
    def check(self, purse):
        first = PlainPurse(purse.town, purse.cards)
        most, fewest = plain_most(first, plain_table(first))
        self.assertEqual(purse.most(), most)
        told = purse.most_run()
        self.assertEqual([len(told), type(told), type(told[0]), type(told[1])], [2, tuple, list, list])
        if most is not None:
            self.assertEqual((purse.play(told[0])[2], told[1]), (most, []))
            self.assertGreaterEqual(len(told[0]), fewest)
            return most
        lead, ring = told
        self.assertEqual(purse.play(lead)[0], purse.play(lead + ring)[0])
        words = purse.play(lead + ring)[1][len(lead):]
        paid = sum(event[3] for event, word in zip(ring, words) if word == "taken")
        self.assertGreater(paid, sum(event[1] for event in ring if event[0] == "top"))
        return most

    def test_against_all_runs(self):
        unbounded = 0
        for number, town in enumerate(card_towns(9, 80, limit=2, tops=(0, 0, 0, 1))):
            unbounded += self.check(Purse(town, 1 + (number % 3 > 0))) is None
        self.assertTrue(3 < unbounded < 70)

    def test_one_card(self):
        for town in card_towns(9, 40):
            self.assertEqual(Purse(town, 1).most(), most_overspent(town))

    def test_by_hand(self):
        self.assertEqual(gift([3], 1).most(), 2)
        self.assertEqual(gift([3], 1, cards=2).most(), 5)
        self.assertEqual(gift([2, 0], 1, cards=2).most(), 4)
        self.assertEqual(gift([9], 0, cards=2).most(), 0)
        self.assertEqual(gift([9], 0, cards=2).most_run(), ([], []))
        self.assertIsNone(Purse(Town([Till("a", 1, heeds=False)]), 2).most())

    def test_too_many(self):
        purse = Purse(LARGE, 2)
        self.assert_too_many(purse.most)
        self.assert_too_many(purse.most_run)


class Sums(Raising):
    def test_by_hand(self):
        self.assertEqual(shared_sum(purse=TWO), 12)
        self.assertEqual(shared_sum(Purse(TWO.town.with_links([("a", "b")]), 2)), 6)
        self.assertEqual(closed_shared(purse=TWO), 11)
        self.assertEqual(closed_shared(Purse(TWO.town.with_links([("a", "b")]), 2)), 6)
        self.assertEqual(closed_shared(gift([3, 0, 2], 1, cards=2)), 10)
        self.assertEqual(closed_shared(gift([3, 2], 0, cards=2)), 0)
        self.assertEqual(closed_shared(Purse(LARGE, 2)), 71)
        self.assertIsNone(closed_shared(Purse(TWO.town.changed("memory", ("sum", 9)), 2)))
        self.assertIsNone(closed_shared(Purse(Town([Till("a", 0, heeds=False)]), 1)))

    def test_it_tells_the_most(self):
        for number, town in enumerate(card_towns(12, 80)):
            purse = Purse(town, 1 + number % 2)
            if is_plain(town):
                self.assertEqual(closed_shared(purse), purse.most())
            else:
                self.assertIsNone(closed_shared(purse))
        for limits in [(0,), (1, 1), (0, 1), (2, 1), (0, 0)]:
            for money in (0, 1, 2):
                purse = gift(limits, money, cards=2)
                self.assertEqual(closed_shared(purse), purse.most())


class Gifts(Raising):
    def test_by_hand(self):
        self.assertEqual(gift(limits=[3, 1], money=2, cards=2),
                         Purse(Town([Till("a", 3), Till("b", 1)], money=2), 2))
        self.assertEqual(gift((0, 9, 4), 0), Purse(Town([Till("a", 0), Till("b", 9), Till("c", 4)]), 1))

    def test_wrong_values_in_order(self):
        for value in any_values() + [[], [1, 2, 3, 4], [10], [-1], [True], "11", {1: 1}]:
            self.assert_raises(BadPart, "part", "limits", lambda: gift(value, None, cards=None))
        for value in odd_values() + [10, -1, True, "1", [1]]:
            self.assert_raises(BadPart, "part", "money", lambda: gift([1], value, cards=None))
        for value in odd_values() + [0, 3, True, "1", [1]]:
            self.assert_raises(BadPart, "part", "cards", lambda: gift([1], 1, cards=value))

    def test_what_is_handed_in_stays(self):
        limits = [1, 2]
        purse = gift(limits, 1)
        limits.append(3)
        self.assertEqual(len(purse.town), 2)


if __name__ == "__main__":
    unittest.main()
