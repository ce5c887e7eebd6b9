"""Nights: orders of payments that explain what the tills tell, and why there is none."""

import itertools
import random
import unittest

from cutofftills.errors import BadNight
from cutofftills.nights import is_order, order_of, reason, run_of
from cutofftills.runs import Run
from cutofftills.tills import Till
from cutofftills.towns import Town
from odd import Agreeing, any_values, odd_values
from plain import Plain
from test_graphs import LARGE
from test_limits import Raising
from test_worst import deaf

CALLS = (order_of, reason, run_of, lambda town, night: is_order(town, night, []))


def interleavings(night):
    """All lists of the payments of a night, each till's in its own order."""
    names = [name for name, taken in night.items() for _ in taken]
    for order in set(itertools.permutations(names)):
        rest = {name: list(taken) for name, taken in night.items()}
        yield [("pay", name, rest[name].pop(0)) for name in order]


def all_taken(town, night, order):
    """Whether all payments of an order are taken behind the cuts of the tills of the night."""
    plain = Plain(town)
    for name in town.names():
        if name in night:
            plain.do(("cut", name))
    return all(plain.do(event) == "taken" for event in order)


def random_nights(seed, many):
    """Pairs of a town and a night of few payments."""
    chance = random.Random(seed)
    memories = [("nothing",), ("nothing",), ("times", 2), ("times", 4), ("sum", 3), ("sum", 6), ("times", 0)]
    for _ in range(many):
        names = chance.sample(["a", "b", "c", "d"], chance.randrange(1, 5))
        pairs = list(itertools.combinations(sorted(names), 2))
        tills = [Till(name, chance.choice((0, 1, 2, 3, 3, 4, 9)), heeds=chance.random() < 0.7) for name in names]
        town = Town(tills, links=[pair for pair in pairs if chance.random() < 0.4], money=chance.choice((0, 1, 9)),
                    memory=chance.choice(memories), tops=chance.randrange(2), numbered=chance.random() < 0.5)
        chance.shuffle(names)
        night = {name: () for name in names[:chance.randrange(1, 5)]}
        for _ in range(chance.choice((1, 2, 3, 4, 5))):
            name = chance.choice(list(night))
            night[name] += (chance.choice((1, 1, 2)),)
        yield town, night


class Orders(Raising):
    def test_the_example_of_the_document(self):
        town = Town.even(2, 3, 1)
        self.assertEqual([order_of(town, {'b': (2,), 'a': (1,)}), reason(town, {'a': (2, 2)})],
                         [[('pay', 'a', 1), ('pay', 'b', 2)], ('limit', 'a')])

    def test_an_order_exactly_if_there_is_one(self):
        found = {"none": 0}
        for town, night in random_nights(1, 700):
            kept = dict(night)
            orders = [order for order in interleavings(night) if all_taken(town, night, order)]
            told, why = order_of(town, night), reason(town, night)
            if orders:
                self.assertIn(told, orders)
                self.assertIs(type(told), list)
                self.assertIsNone(why)
                found["none"] += 1
            else:
                self.assertIsNone(told)
                found[why[0]] = found.get(why[0], 0) + 1
                self.check_reason(town, night, why)
            for order in interleavings(night):
                self.assertIs(is_order(town, night, order), order in orders)
            self.assertEqual(night, kept)
        self.assertEqual(set(found), {"none", "list", "limit", "memory"})
        self.assertGreater(min(found.values()), 20)

    def check_reason(self, town, night, why):
        """The reason is the first one that applies, as the document tells them."""
        busy = [name for name in town.names() if night.get(name)]
        heeding = [name for name in busy if town[name].heeds and town.money == 0]
        if heeding:
            self.assertEqual(why, ("list", heeding[0]))
            return
        full = []
        for name in busy:
            taken = sum(sum(night.get(one, ())) for one in town.group(name) if town[one].limit <= town[name].limit)
            if taken > town[name].limit:
                full.append(name)
        self.assertEqual(why, ("limit", full[0]) if full else ("memory",))

    def test_lesser_limits_ahead_then_the_order_of_the_town(self):
        town = Town([Till("c", 4), Till("a", 2), Till("b", 4), Till("d", 9)], money=1)
        self.assertEqual(order_of(town, {"d": (1, 2), "b": (2, 1), "a": (1,), "c": (1, 1, 2)}), [
            ("pay", "a", 1), ("pay", "c", 1), ("pay", "c", 1), ("pay", "c", 2), ("pay", "b", 2), ("pay", "b", 1),
            ("pay", "d", 1), ("pay", "d", 2)])
        self.assertEqual(order_of(night={"b": (1,), "c": ()}, town=town), [("pay", "b", 1)])

    def test_the_empty_night(self):
        for town in (Town.even(1, 0, 0), LARGE, deaf(0), Town.even(1, 1, 0).changed("memory", ("sum", 0))):
            for night in ({}, {"a": ()}):
                self.assertEqual(order_of(town, night), [])
                self.assertIsNone(reason(town, night))
                self.assertIs(is_order(town, night, []), True)
                self.assertEqual(run_of(town, night), [("cut", name) for name in night])

    def test_groups(self):
        town = Town([Till("a", 1), Till("b", 3), Till("c", 1)], links=[("a", "b")], money=1)
        self.assertEqual(order_of(town, {"b": (2,), "a": (1,), "c": (1,)}),
                         [("pay", "a", 1), ("pay", "c", 1), ("pay", "b", 2)])
        self.assertEqual(reason(town, {"b": (2, 1), "a": (1,)}), ("limit", "b"))
        self.assertEqual(reason(town, {"b": (2, 1), "a": (2,)}), ("limit", "a"))
        self.assertIsNone(reason(town, {"b": (2, 1), "a": (), "c": (1,)}))
        self.assertEqual(reason(town.with_links([("a", "c")]), {"a": (1,), "c": (1,)}), ("limit", "a"))

    def test_lists_and_memories(self):
        town = Town([Till("b", 3, heeds=False), Till("a", 3), Till("c", 0)], memory=("times", 2))
        self.assertEqual(reason(night={"a": (1,), "b": (1,)}, town=town), ("list", "a"))
        self.assertEqual(reason(town, {"a": (), "b": (1,)}), None)
        self.assertEqual(reason(town, {"a": (1,), "c": (1,)}), ("list", "a"))
        self.assertEqual(reason(town, {"c": (1,), "b": (2, 2)}), ("list", "c"))
        self.assertEqual(reason(town.changed("money", 1), {"c": (1,), "b": (2, 2)}), ("limit", "b"))
        self.assertEqual(reason(town, {"b": (1, 1, 1)}), ("memory",))
        self.assertEqual(reason(town.changed("memory", ("sum", 2)), {"b": (1, 2)}), ("memory",))
        self.assertIsNone(reason(town.changed("memory", ("sum", 3)), {"b": (1, 2)}))
        # What can be topped up does not help: the tills were cut off ahead of it.
        self.assertEqual(reason(town.changed("tops", 5), {"a": (1,)}), ("list", "a"))

    def test_run_of(self):
        for town, night in random_nights(2, 300):
            order = order_of(town, night)
            told = run_of(town, night)
            if order is None:
                self.assertIsNone(told)
                continue
            cuts = [("cut", name) for name in town.names() if name in night]
            self.assertEqual(told, cuts + order)
            run = Run(town, told)
            self.assertEqual(set(run.words()[len(cuts):]) - {"taken"}, set())
            self.assertEqual(run.untold(), {name: sum(night.get(name, ())) for name in town.names()})
        self.assertEqual(run_of(night={"a": (1,)}, town=Town.even(2, 1, 1)), [("cut", "a"), ("pay", "a", 1)])

    def test_the_lists_are_new(self):
        town = Town.even(1, 1, 1)
        for call in (order_of, run_of):
            call(town, {"a": (1,)}).clear()
            self.assertEqual(call(town, {"a": (1,)})[-1], ("pay", "a", 1))


class IsOrder(Raising):
    def setUp(self):
        self.town = Town([Till("a", 3), Till("b", 4), Till("c", 1)], links=[("a", "b")], money=1)
        self.night = {"b": (1, 2), "a": (1,), "c": ()}

    def check(self, value, expected):
        self.assertIs(is_order(self.town, self.night, value), expected, value)

    def test_orders(self):
        one, other, last = ("pay", "a", 1), ("pay", "b", 1), ("pay", "b", 2)
        self.check([one, other, last], True)
        self.check([other, one, last], True)
        self.check([other, last, one], False)
        self.check([other, last], False)
        self.check([one, last, other], False)
        self.check([one, other, last, last], False)
        self.check([one, one, other, last], False)
        self.check([one, other, last, ("pay", "c", 1)], False)
        self.check([one, ("pay", "b", 2), ("pay", "b", 2)], False)
        self.check((one, other, last), False)
        self.check([list(one), other, last], False)
        self.check([("pay", "a", True), other, last], False)
        self.check([("cut", "a"), ("cut", "b"), one, other, last], False)
        self.check([("lose",), one, other, last], False)
        self.check([one, other, last, ("line", "a")], False)
        self.check([one, other, last, ("pay", "d", 1)], False)
        self.check([], False)

    def test_any_values(self):
        for value in any_values():
            self.check(value, False)
            self.check([("pay", "a", 1), ("pay", "b", 1), ("pay", "b", 2), value], False)
            self.check([("pay", "a", 1), value, ("pay", "b", 2)], False)
        for value in odd_values():
            self.check([("pay", "a", value), ("pay", "b", 1), ("pay", "b", 2)], False)
            self.check([("pay", value, 1), ("pay", "b", 1), ("pay", "b", 2)], False)

    def test_refused_payments(self):
        self.assertIs(is_order(Town.even(1, 1, 1), {"a": (2,)}, [("pay", "a", 2)]), False)
        self.assertIs(is_order(Town.even(1, 2, 0), {"a": (2,)}, [("pay", "a", 2)]), False)
        self.assertIs(is_order(Town.even(1, 2, 1), {"a": (2,)}, [("pay", "a", 2)]), True)
        self.assertIs(is_order(value=[], night={}, town=Town.even(1, 2, 1)), True)


class WrongNights(Raising):
    def test_no_dicts(self):
        for night in [None, [], (), [("a", (1,))], "a", 0, True] + [v for v in odd_values() if type(v) is not dict]:
            for call in CALLS:
                self.assert_raises(BadNight, "name", None, lambda: call(LARGE, night))

    def test_wrong_names_and_values(self):
        for taken in [[1], 1, True, None, "1", (0,), (3,), (1, True), (1, 2, 3), (-1,), ("1",), (1, None), ((1,),)]:
            for call in CALLS:
                self.assert_raises(BadNight, "name", "b", lambda: call(LARGE, {"a": (1,), "b": taken, "e": (1,)}))
        for value in odd_values():
            for call in CALLS:
                self.assert_raises(BadNight, "name", "b", lambda: call(LARGE, {"a": (1,), "b": value}))
                self.assert_raises(BadNight, "name", "b", lambda: call(LARGE, {"a": (1,), "b": (1, value)}))
        for name in ["e", "", "A", 1, None, True, ("a",), b"a", Agreeing()]:
            for call in CALLS:
                self.assert_raises(BadNight, "name", name, lambda: call(LARGE, {"a": (1,), name: (1,), "b": 1}))
                self.assert_raises(BadNight, "name", name, lambda: call(LARGE, {name: (2,) * 7}))

    def test_more_than_twelve_units(self):
        for night in [{"a": (1,) * 13}, {"a": (2,) * 6, "b": (1,)}, {"a": (2,) * 7}, {"a": (2, 2), "b": (1,) * 9}]:
            for call in CALLS:
                self.assert_raises(BadNight, "name", None, lambda: call(LARGE, night))
                self.assert_raises(BadNight, "name", "e", lambda: call(LARGE, {**night, "e": ()}))
        town = LARGE
        for night in [{"a": (1,) * 9, "b": (1,) * 3}, {"a": (2,) * 4, "b": (2, 2)}]:
            self.assertIs(is_order(town, night, order_of(town, night)), True)
            self.assertEqual(len(run_of(town, night)), 2 + sum(len(taken) for taken in night.values()))
        self.assertEqual(reason(town, {"a": (1,) * 12}), ("limit", "a"))


if __name__ == "__main__":
    unittest.main()
