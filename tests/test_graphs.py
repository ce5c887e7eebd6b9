"""Reached states and the steps between them."""

import unittest

from cutofftills.errors import TooMany
from cutofftills.graphs import least_events, reached_states, steps
from cutofftills.runs import Run
from cutofftills.searches import Search
from cutofftills.states import after, choices, first_state, is_state
from cutofftills.tills import Till
from cutofftills.towns import Town
from odd import any_values

LARGE = Town.even(4, 9, 9)


def nearly_too_large():
    """A town with 19988 reached states."""
    return Town([Till("a", 5, heeds=False), Till("b", 2)], links=[("a", "b")], money=7, memory=("times", 9), tops=5)


def just_too_large():
    """A town with 20014 reached states."""
    return Town([Till("a", 9, heeds=False), Till("b", 8, heeds=False)], links=[("a", "b")], money=4,
                memory=("sum", 5), tops=4)


class Steps(unittest.TestCase):
    def test_by_hand(self):
        town = Town.even(1, 1, 1).changed("tops", 1)
        first = ((True,), (0,), (False,), 0, 1, False, 1)
        self.assertEqual(steps(town, first), [
            (("cut", "a"), "done", ((False,), (0,), (False,), 0, 1, False, 1)),
            (("pay", "a", 1), "taken", ((True,), (0,), (False,), 0, 0, False, 1)),
            (("pay", "a", 2), "house", first),
            (("top", 1), "done", ((True,), (0,), (False,), 0, 2, False, 0)),
            (("lose",), "done", ((True,), (0,), (False,), 0, 1, True, 0)),
        ])
        self.assertEqual(steps(state=first, town=town), steps(town, first))

    def test_in_the_order_of_choices(self):
        for town in (Town.even(2, 2, 1), Town.even(3, 1, 1).with_links([("a", "b")])):
            for state in reached_states(town)[:200]:
                told = steps(town, state)
                self.assertEqual([event for event, _, _ in told], choices(town, state))
                for event, word, behind in told:
                    self.assertEqual((behind, word), after(town, state, event))

    def test_the_list_is_new(self):
        town = Town.even(1, 1, 1)
        steps(town, first_state(town)).clear()
        self.assertEqual(len(steps(town, first_state(town))), 4)


class Reached(unittest.TestCase):
    def test_by_hand(self):
        town = Town.even(1, 1, 0)
        self.assertEqual(reached_states(town=town), [
            ((True,), (0,), (False,), 0, 0, False, 0),
            ((False,), (0,), (True,), 0, 0, False, 0),
            ((True,), (0,), (False,), 0, 0, True, 0),
            ((False,), (0,), (True,), 0, 0, True, 0),
        ])

    def test_the_order(self):
        for town in (Town.even(2, 2, 1), Town.even(1, 3, 2).changed("tops", 2), Town.even(3, 1, 1)):
            states = reached_states(town)
            self.assertEqual(states[0], first_state(town))
            expected, at = [states[0]], 0
            while at < len(expected):
                for event in choices(town, expected[at]):
                    behind = after(town, expected[at], event)[0]
                    if behind not in expected:
                        expected.append(behind)
                at += 1
            self.assertEqual(states, expected)

    def test_the_list_is_new(self):
        town = Town.even(1, 1, 0)
        reached_states(town).clear()
        self.assertEqual(len(reached_states(town)), 4)

    def test_too_many(self):
        self.assertEqual(len(reached_states(nearly_too_large())), 19988)
        for town in (just_too_large(), LARGE):
            with self.assertRaises(TooMany) as caught:
                reached_states(town)
            self.assertEqual(caught.exception.limit, 20000)

    def test_just_so_many(self):
        search = Search(0)
        for number in range(1, 20000):
            self.assertEqual(search.reach(number, number - 1, ("lose",)), number)
        self.assertEqual(search.reach(19999, 0, ("lose",)), 19999)
        with self.assertRaises(TooMany):
            search.reach(20000, 0, ("lose",))
        self.assertEqual(len(search.states), 20000)


class Least(unittest.TestCase):
    def test_no_events(self):
        town = Town.even(2, 1, 1)
        self.assertEqual(least_events(town, first_state(town)), [])
        self.assertEqual(least_events(state=first_state(town), town=town), [])

    def test_they_lead_there(self):
        for town in (Town.even(2, 2, 2), Town.even(1, 3, 2).changed("tops", 2).changed("memory", ("sum", 2)),
                     Town([Till("a", 2, heeds=False)], money=1, tops=1)):
            lengths = []
            for state in reached_states(town)[:60]:
                events = least_events(town, state)
                self.assertIs(type(events), list)
                self.assertEqual(Run(town, events).state(), state)
                lengths.append(len(events))
            self.assertEqual(lengths, sorted(lengths))

    def test_states_that_are_not_reached(self):
        town = Town.even(1, 1, 1)
        state = ((False,), (0,), (True,), 0, 1, False, 0)
        self.assertIs(is_state(town, state), True)
        self.assertIsNone(least_events(town, state))

    def test_any_values(self):
        town = Town.even(1, 1, 1).changed("tops", 1)
        first = first_state(town)
        self.assertEqual(first, ((True,), (0,), (False,), 0, 1, False, 1))
        for value in any_values() + [list(first), first[:6], ([True], (0,), (False,), 0, 1, False, 1),
                                     ((1,), (0,), (False,), 0, 1, False, 1),
                                     ((True,), (False,), (False,), 0, 1, False, 1),
                                     ((True,), (0,), (0,), 0, 1, False, 1),
                                     ((True,), (0,), (False,), False, 1, False, 1),
                                     ((True,), (0,), (False,), 0, True, False, 1),
                                     ((True,), (0,), (False,), 0, 1, 0, 1),
                                     ((True,), (0,), (False,), 0, 1, False, True),
                                     first_state(Town.even(2, 1, 1))]:
            self.assertIsNone(least_events(town, value))

    def test_too_many(self):
        state = ((False,) * 4, (9, 9, 9, 9), (False,) * 4, 0, 0, True, 0)
        with self.assertRaises(TooMany) as caught:
            least_events(LARGE, state)
        self.assertEqual(caught.exception.limit, 20000)


if __name__ == "__main__":
    unittest.main()
