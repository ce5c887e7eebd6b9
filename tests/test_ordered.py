"""Towns beside one another: stricter, alike, and trials that part them."""

import itertools
import random
import unittest

from cutofftills.errors import BadTown, TooMany
from cutofftills.ordered import are_alike, is_stricter, parting, parts, taken_more
from cutofftills.tills import Till
from cutofftills.towns import Town
from odd import any_values, odd_values
from plain import Plain, plain_choices, played, small_towns
from test_graphs import LARGE
from test_limits import Raising
from test_worst import deaf

CALLS = (taken_more, is_stricter, are_alike, parting, lambda one, other: parts(one, other, []))


def fewest(one, other):
    """The fewest events to a payment that one takes and other refuses, and to one that just one of them takes."""
    first = (Plain(one, clipped=True), Plain(other, clipped=True))
    seen = {(first[0].state(), first[1].state())}
    rank = [first]
    length = 1
    more = just_one = None
    while rank and (more is None or just_one is None):
        following = []
        for here, there in rank:
            for event in plain_choices(here):
                beside = here.twin(), there.twin()
                taken = [plain.do(event) == "taken" for plain in beside]
                if taken == [True, False]:
                    more = more or length
                if taken[0] != taken[1]:
                    just_one = just_one or length
                key = (beside[0].state(), beside[1].state())
                if key not in seen:
                    seen.add(key)
                    following.append(beside)
        rank = following
        length += 1
    return more, just_one


def changed_towns(town, chance):
    """Towns that are comparable to a town, with other parts."""
    name = chance.choice(town.names())
    till = town[name]
    yield town
    yield town.with_till(till.changed("limit", chance.randrange(4)))
    yield town.with_till(till.changed("heeds", not till.heeds))
    yield town.changed("money", chance.randrange(3))
    yield town.changed("memory", chance.choice([("nothing",), ("times", 1), ("sum", 2), ("sum", 9)]))
    yield town.changed("numbered", not town.numbered)
    pairs = list(itertools.combinations(sorted(town.names()), 2))
    yield town.with_links(chance.sample(pairs, chance.randrange(len(pairs) + 1)))


class Pairs(unittest.TestCase):
    def check(self, one, other):
        more, just_one = fewest(one, other)
        told = taken_more(one, other)
        self.check_trial(one, other, told, more)
        self.assertIs(is_stricter(one, other), more is None)
        if told is not None:
            self.assertEqual([played(town, told).words[-1] == "taken" for town in (one, other)], [True, False])
        self.check_trial(one, other, parting(one, other), just_one)
        self.assertIs(are_alike(one, other), just_one is None)
        return more, just_one

    def check_trial(self, one, other, told, length):
        if length is None:
            self.assertIsNone(told)
            return
        self.assertEqual((type(told), len(told)), (list, length))
        self.assertNotIn("again", [event[0] for event in told])
        taken = [played(town, told).words[-1] == "taken" for town in (one, other)]
        self.assertEqual(sorted(taken), [False, True])
        self.assertIs(parts(one, other, told), True)

    def test_small_towns(self):
        chance = random.Random(1)
        found = set()
        for town in small_towns()[:440:13]:
            for other in changed_towns(town, chance):
                if len(town) < 3:
                    told = self.check(town, other)
                    found.add(tuple(length is None for length in told))
                    self.check(other, town)
        self.assertEqual(found, {(True, True), (True, False), (False, False)})

    def test_three_tills(self):
        town = Town([Till("a", 1), Till("b", 0), Till("c", 1)], money=1)
        for other in (town.with_links([("a", "b")]), town.with_links([("a", "b"), ("b", "c")]),
                      town.with_till(Till("b", 1))):
            self.check(town, other)
            self.check(other, town)


class ByHand(Raising):
    def test_limits(self):
        town, other = Town.even(1, 1, 1), Town.even(1, 2, 1)
        self.assertEqual(taken_more(other, town), [("cut", "a"), ("pay", "a", 2)])
        # What was taken with the greater limit is untold there, so that one takes less behind it.
        self.assertEqual(taken_more(town, other), [("cut", "a"), ("pay", "a", 2), ("pay", "a", 1)])
        self.assertEqual((is_stricter(town, other), is_stricter(other, town)), (False, False))
        self.assertIs(are_alike(town, other), False)
        self.assertEqual(parting(town, other), [("cut", "a"), ("pay", "a", 2)])

    def test_one_is_stricter(self):
        for town, other in [(deaf(0), deaf(1)), (Town.even(1, 1, 0), deaf(1, money=0)),
                            (Town.even(2, 2, 0), Town.even(2, 2, 1)), (Town.even(1, 3, 0), Town.even(1, 3, 9)),
                            (Town.even(1, 1, 2), deaf(1, money=2)),
                            (deaf(2, memory=("sum", 0)), deaf(2))]:
            self.assertIsNone(taken_more(town, other))
            self.assertIsNotNone(taken_more(other, town))
            self.assertIs(is_stricter(town, other), True)
            self.assertIs(is_stricter(other, town), False)
            self.assertIs(are_alike(town, other), False)
            self.assertIsNotNone(parting(town, other))

    def test_alike(self):
        town = Town.even(2, 2, 1)
        self.assertIs(are_alike(town, town.changed("numbered", False)), True)
        self.assertIs(are_alike(town, town.changed("memory", ("sum", 4))), True)
        self.assertIs(are_alike(Town.even(1, 0, 1), Town.even(1, 0, 1).changed("memory", ("sum", 0))), True)
        self.assertIs(are_alike(Town.even(1, 1, 0), Town.even(1, 2, 0)), True)
        self.assertIs(are_alike(deaf(1), deaf(2)), False)
        self.assertIs(are_alike(Town.even(1, 0, 1), deaf(0, money=1)), True)

    def test_neither_is_stricter(self):
        town = Town([Till("a", 1), Till("b", 2)], money=1)
        other = Town([Till("a", 2), Till("b", 1)], money=1)
        self.assertIs(is_stricter(town, other), False)
        self.assertIs(is_stricter(other, town), False)
        self.assertEqual(taken_more(town, other), [("cut", "b"), ("pay", "b", 2)])
        self.assertEqual(taken_more(other, town), [("cut", "a"), ("pay", "a", 2)])
        # With less money, but a deaf till, both take what the other one refuses.
        town, other = deaf(1, money=0), Town.even(1, 1, 1)
        self.assertEqual((is_stricter(town, other), is_stricter(other, town)), (False, False))
        self.assertEqual(parting(town, other), [("pay", "a", 1)])
        self.assertEqual(len(taken_more(town, other)), 3)
        self.assertIs(parts(town, other, [("lose",), ("cut", "a"), ("pay", "a", 1)]), True)

    def test_links_and_top_ups(self):
        town = Town.even(2, 1, 0).changed("tops", 1)
        linked = town.with_links([("a", "b")])
        # A linked till hears of the top-up, one without links does not.
        self.assertEqual(taken_more(linked, town), [("cut", "a"), ("top", 1), ("pay", "a", 1)])

    def test_by_name(self):
        town, other = Town.even(1, 1, 1), Town.even(1, 2, 1)
        self.assertEqual(taken_more(other=town, one=other), [("cut", "a"), ("pay", "a", 2)])
        self.assertIs(is_stricter(other=deaf(1), one=Town.even(1, 1, 0)), True)
        self.assertIs(are_alike(other=other, one=town), False)
        self.assertEqual(parting(other=other, one=town), [("cut", "a"), ("pay", "a", 2)])
        self.assertIs(parts(value=parting(town, other), other=other, one=town), True)

    def test_towns_that_are_not_comparable(self):
        town = Town([Till("a", 1), Till("b", 1)], money=1, tops=1)
        for other in [Town([Till("b", 1), Till("a", 1)], money=1, tops=1), town.changed("tops", 0),
                      Town.even(1, 1, 1).changed("tops", 1), Town([Till("a", 1), Till("c", 1)], money=1, tops=1),
                      Town.even(3, 1, 1).changed("tops", 1), ["a", "b"], Till("a", 1)] + any_values():
            for call in CALLS:
                with self.assertRaises(BadTown) as caught:
                    call(town, other)
                self.assertIs(caught.exception.town, other)

    def test_too_many(self):
        for call in CALLS[:4]:
            with self.assertRaises(TooMany) as caught:
                call(LARGE, LARGE)
            self.assertEqual(caught.exception.limit, 20000)
        # Few states in each town, but more than 20000 pairs of them.
        town = Town([Till("a", 9, heeds=False), Till("b", 9, heeds=False)], money=9, tops=5)
        for call in CALLS[:4]:
            with self.assertRaises(TooMany):
                call(town, town.changed("numbered", False))

    def test_the_lists_are_new(self):
        town, other = Town.even(1, 1, 1), Town.even(1, 2, 1)
        for call in (lambda: taken_more(other, town), lambda: parting(town, other)):
            call().clear()
            self.assertEqual(call(), [("cut", "a"), ("pay", "a", 2)])


class Parts(Raising):
    def check(self, value, expected, one=Town.even(1, 1, 2), other=Town.even(1, 2, 2)):
        self.assertIs(parts(one, other, value), expected, value)
        self.assertIs(parts(other, one, value), expected, value)

    def test_trials(self):
        self.check([("cut", "a"), ("pay", "a", 2)], True)
        self.check([("cut", "a"), ("pay", "a", 1), ("pay", "a", 1)], True)
        self.check([("cut", "a"), ("line", "a"), ("lose",), ("cut", "a"), ("pay", "a", 1)], False)
        self.check([("pay", "a", 2), ("cut", "a"), ("pay", "a", 2)], False)
        # Parting once more behind a parting.
        self.check([("cut", "a"), ("pay", "a", 2), ("pay", "a", 1)], True)
        self.check([("cut", "a"), ("pay", "a", 2), ("line", "a"), ("pay", "a", 1)], True)
        self.check([("cut", "a"), ("pay", "a", 2), ("line", "a")], False)
        self.check([("cut", "a"), ("pay", "a", 1)], False)
        self.check([("cut", "a"), ("pay", "a", 2), ("pay", "a", 2)], False)

    def test_no_trials(self):
        trial = [("cut", "a"), ("pay", "a", 2)]
        for value in [[], tuple(trial), trial[1:], [("cut", "b")] + trial, [["cut", "a"], ("pay", "a", 2)],
                      [("cut", "a"), ["pay", "a", 2]], [("cut", "a"), ("pay", "a", 3)], [("cut", "a")] + trial,
                      [("line", "a")] + trial, [("top", 1)] + trial, [("lose",), ("lose",)] + trial,
                      [("cut", "a"), ("pay", "a", True)], trial + [None], "cut a; pay a 2", iter(trial)]:
            self.check(value, False)
        self.check([("lose",)] + trial, False)

    def test_agains(self):
        trial = [("cut", "a"), ("pay", "a", 1), ("line", "a"), ("again", "a"), ("cut", "a"), ("pay", "a", 2)]
        self.check([event for event in trial if event[0] != "again"], True)
        self.check(trial, False)
        towns = [Town.even(1, limit, 2).changed("numbered", False) for limit in (1, 2)]
        self.check(trial, False, *towns)

    def test_any_values(self):
        for value in any_values() + odd_values():
            self.check(value, False)
            self.check([value], False)
            self.check([("cut", "a"), ("pay", "a", value)], value == 2 if isinstance(value, int) else False)
            self.check([("cut", "a"), (value, "a", 2)], False)


if __name__ == "__main__":
    unittest.main()
