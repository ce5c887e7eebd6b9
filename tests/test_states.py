"""States: their form, which events can be behind them, and what these do."""

import itertools
import unittest

from cutofftills.errors import BadEvent
from cutofftills.states import after, can_be, choices, first_state, gain, is_state
from cutofftills.tills import Till
from cutofftills.towns import Town
from odd import any_values, odd_values
from plain import Plain, all_events, plain_choices, random_runs, small_towns


def behind(town, *events):
    """The states behind events from the beginning, and the last word."""
    state, word = first_state(town), None
    for event in events:
        state, word = after(town, state, event)
    return state, word


def word_of(town, *events):
    return behind(town, *events)[1]


def state_of(town, *events):
    return behind(town, *events)[0]


class First(unittest.TestCase):
    def test_first_state(self):
        town = Town.even(3, 2, 4).changed("tops", 5).changed("memory", ("times", 3))
        self.assertEqual(first_state(town),
                         ((True, True, True), (0, 0, 0), (False, False, False), 0, 4, False, 5))
        self.assertEqual(first_state(town=Town.even(1, 9, 0)), ((True,), (0,), (False,), 0, 0, False, 0))
        for part in first_state(town)[0] + first_state(town)[2] + (first_state(town)[5],):
            self.assertIs(type(part), bool)

    def test_it_is_a_state(self):
        for town in small_towns():
            self.assertIs(is_state(town, first_state(town)), True)


class CanBe(unittest.TestCase):
    def setUp(self):
        self.town = Town([Till("b", 2), Till("a", 1)], money=2, tops=2, numbered=False)

    def check(self, state, events):
        for event in all_events(self.town):
            self.assertIs(can_be(self.town, state, event), event in events, event)
            if event in events:
                self.assertEqual(len(after(self.town, state, event)), 2)
            else:
                with self.assertRaises(BadEvent) as caught:
                    after(self.town, state, event)
                self.assertEqual(caught.exception.index, event)
        self.assertEqual(choices(self.town, state), [event for event in all_events(self.town) if event in events])

    def test_at_the_beginning(self):
        pays = [("pay", "b", 1), ("pay", "b", 2), ("pay", "a", 1), ("pay", "a", 2)]
        self.check(first_state(self.town), [("cut", "b"), ("cut", "a"), *pays, ("top", 1), ("top", 2), ("lose",)])

    def test_later(self):
        pays = [("pay", "b", 1), ("pay", "b", 2), ("pay", "a", 1), ("pay", "a", 2)]
        self.check(state_of(self.town, ("cut", "a"), ("top", 1)),
                   [("cut", "b"), ("line", "a"), *pays, ("top", 1), ("lose",)])
        self.check(state_of(self.town, ("top", 2)), [("cut", "b"), ("cut", "a"), *pays, ("lose",)])
        self.check(state_of(self.town, ("lose",), ("cut", "b")), [("line", "b"), ("cut", "a"), *pays])

    def test_agains_never_can(self):
        state = state_of(self.town, ("cut", "a"), ("pay", "a", 1), ("line", "a"))
        self.assertIs(can_be(self.town, state, ("again", "a")), False)
        with self.assertRaises(BadEvent) as caught:
            after(self.town, state, ("again", "a"))
        self.assertEqual(caught.exception.index, ("again", "a"))
        self.assertEqual([event for event in choices(self.town, state) if event[0] == "again"], [])

    def test_any_values(self):
        state = first_state(self.town)
        for value in any_values() + [["cut", "a"], ["lose"], ("cut", "c"), ("pay", "a", 3), ("top", True),
                                     ("pay", "a", True), ("lose", "a"), "lose"]:
            self.assertIs(can_be(self.town, state, value), False)
            with self.assertRaises(BadEvent) as caught:
                after(self.town, state, value)
            self.assertIs(caught.exception.index, value)
        for value in odd_values():
            self.assertIs(can_be(self.town, state, ("pay", "a", value)), False)
            self.assertIs(can_be(self.town, state, ("cut", value)), False)

    def test_by_name(self):
        state = first_state(self.town)
        self.assertIs(can_be(event=("lose",), state=state, town=self.town), True)
        self.assertEqual(after(event=("lose",), state=state, town=self.town)[1], "done")
        self.assertEqual(choices(state=state, town=self.town), choices(self.town, state))

    def test_the_list_is_new(self):
        state = first_state(self.town)
        told = choices(self.town, state)
        told.clear()
        self.assertEqual(len(choices(self.town, state)), 9)

    def test_a_state_is_not_changed(self):
        state = first_state(self.town)
        after(self.town, state, ("cut", "a"))
        self.assertEqual(state, ((True, True), (0, 0), (False, False), 0, 2, False, 2))


class WithALine(unittest.TestCase):
    def test_taken_as_long_as_so_much_is_left(self):
        town = Town.even(1, 0, 3)
        self.assertEqual(behind(town, ("pay", "a", 2)), (((True,), (0,), (False,), 0, 1, False, 0), "taken"))
        self.assertEqual(word_of(town, ("pay", "a", 2), ("pay", "a", 2)), "house")
        self.assertEqual(behind(town, ("pay", "a", 2), ("pay", "a", 1)),
                         (((True,), (0,), (False,), 0, 0, False, 0), "taken"))
        self.assertEqual(behind(town, ("pay", "a", 2), ("pay", "a", 1), ("pay", "a", 1)),
                         (((True,), (0,), (False,), 0, 0, False, 0), "house"))

    def test_a_lost_card_is_refused(self):
        town = Town.even(1, 9, 9)
        self.assertEqual(word_of(town, ("lose",), ("pay", "a", 1)), "house")

    def test_the_limit_does_not_count(self):
        self.assertEqual(word_of(Town.even(1, 0, 2), ("pay", "a", 2)), "taken")

    def test_what_others_have_untold_is_not_known(self):
        town = Town.even(2, 2, 2)
        self.assertEqual(word_of(town, ("cut", "a"), ("pay", "a", 2), ("pay", "b", 2)), "taken")

    def test_the_card_forgets(self):
        town = Town.even(2, 9, 9).changed("memory", ("times", 2))
        events = [("cut", "a"), ("pay", "a", 1), ("pay", "a", 1)]
        self.assertEqual(state_of(town, *events)[3], 2)
        self.assertEqual(word_of(town, *events, ("pay", "a", 1)), "memory")
        self.assertEqual(state_of(town, *events, ("pay", "b", 1))[3], 0)
        self.assertEqual(word_of(town, *events, ("pay", "b", 1), ("pay", "a", 1)), "taken")

    def test_it_forgets_nothing_behind_a_refusal_or_a_line(self):
        town = Town.even(2, 9, 2).changed("memory", ("sum", 2))
        events = [("cut", "a"), ("pay", "a", 2), ("line", "a")]
        self.assertEqual(state_of(town, *events), ((True, True), (0, 0), (False, False), 2, 0, False, 0))
        self.assertEqual(behind(town, *events, ("pay", "b", 1)), (state_of(town, *events), "house"))


class WithoutALine(unittest.TestCase):
    def test_exactly_to_the_limit(self):
        town = Town.even(1, 3, 9)
        events = [("cut", "a"), ("pay", "a", 2)]
        self.assertEqual(behind(town, *events), (((False,), (2,), (False,), 0, 9, False, 0), "taken"))
        self.assertEqual(word_of(town, *events, ("pay", "a", 2)), "limit")
        self.assertEqual(behind(town, *events, ("pay", "a", 1))[0], ((False,), (3,), (False,), 0, 9, False, 0))
        self.assertEqual(behind(town, *events, ("pay", "a", 1))[1], "taken")
        self.assertEqual(word_of(town, *events, ("pay", "a", 1), ("pay", "a", 1)), "limit")
        self.assertEqual(word_of(Town.even(1, 0, 9), ("cut", "a"), ("pay", "a", 1)), "limit")

    def test_what_is_left_does_not_count(self):
        self.assertEqual(word_of(Town.even(1, 9, 1), ("cut", "a"), ("pay", "a", 2)), "taken")

    def test_the_limit_counts_what_the_group_has_untold(self):
        town = Town([Till("a", 2), Till("b", 4), Till("c", 1)], links=[("a", "b")], money=9)
        cuts = [("cut", "a"), ("cut", "b"), ("cut", "c")]
        self.assertEqual(word_of(town, *cuts, ("pay", "b", 1), ("pay", "a", 1)), "taken")
        self.assertEqual(word_of(town, *cuts, ("pay", "b", 1), ("pay", "a", 2)), "limit")
        self.assertEqual(word_of(town, *cuts, ("pay", "b", 2), ("pay", "a", 1)), "limit")
        self.assertEqual(word_of(town, *cuts, ("pay", "b", 2), ("pay", "c", 1)), "taken")
        self.assertEqual(word_of(town, *cuts, ("pay", "a", 2), ("pay", "b", 2)), "taken")
        self.assertEqual(word_of(town, *cuts, ("pay", "a", 2), ("pay", "b", 2), ("pay", "b", 1)), "limit")

    def test_what_is_told_at_once_counts_for_no_limit(self):
        town = Town([Till("a", 2), Till("b", 2)], links=[("a", "b")], money=9)
        self.assertEqual(word_of(town, ("cut", "a"), ("pay", "b", 2), ("pay", "a", 2)), "taken")

    def test_the_memory(self):
        for memory, many in ((("times", 0), 0), (("times", 3), 3), (("sum", 0), 0), (("sum", 3), 3), (("sum", 9), 9)):
            town = Town.even(2, 9, 9).changed("memory", memory)
            events = [("cut", "a"), ("cut", "b")] + [("pay", "ab"[at % 2], 1) for at in range(many)]
            state, _ = behind(town, *events)
            self.assertEqual(state[3], many)
            self.assertEqual(after(town, state, ("pay", "b", 1)), (state, "memory"))

    def test_times_and_sums(self):
        times = Town.even(1, 9, 9).changed("memory", ("times", 2))
        sums = Town.even(1, 9, 9).changed("memory", ("sum", 2))
        self.assertEqual(state_of(times, ("cut", "a"), ("pay", "a", 2))[3], 1)
        self.assertEqual(state_of(sums, ("cut", "a"), ("pay", "a", 2))[3], 2)
        self.assertEqual(word_of(times, ("cut", "a"), ("pay", "a", 2), ("pay", "a", 2)), "taken")
        self.assertEqual(word_of(sums, ("cut", "a"), ("pay", "a", 2), ("pay", "a", 1)), "memory")
        self.assertEqual(word_of(sums, ("cut", "a"), ("pay", "a", 1), ("pay", "a", 2)), "memory")
        self.assertEqual(word_of(sums, ("cut", "a"), ("pay", "a", 1), ("pay", "a", 1)), "taken")
        self.assertEqual(state_of(Town.even(1, 9, 9), ("cut", "a"), ("pay", "a", 2))[3], 0)

    def test_the_order_of_the_words(self):
        town = Town.even(1, 0, 0).changed("memory", ("times", 0))
        self.assertEqual(word_of(town, ("pay", "a", 1)), "house")
        self.assertEqual(word_of(town, ("cut", "a"), ("pay", "a", 1)), "list")
        deaf = town.with_till(Till("a", 0, heeds=False))
        self.assertEqual(word_of(deaf, ("cut", "a"), ("pay", "a", 1)), "limit")
        self.assertEqual(word_of(deaf.with_limits([1]), ("cut", "a"), ("pay", "a", 1)), "memory")
        self.assertEqual(word_of(deaf.with_limits([1]).changed("memory", ("times", 1)),
                                 ("cut", "a"), ("pay", "a", 1)), "taken")


class Heard(unittest.TestCase):
    def test_nothing_left_exactly(self):
        town = Town.even(2, 9, 2)
        for units, word in ((1, "taken"), (2, "list")):
            state, _ = behind(town, ("pay", "a", units), ("cut", "b"))
            self.assertEqual(state[2], (False, units == 2))
            self.assertEqual(after(town, state, ("pay", "b", 1))[1], word)

    def test_a_loss(self):
        town = Town.even(2, 9, 9)
        self.assertEqual(word_of(town, ("lose",), ("cut", "a"), ("pay", "a", 1)), "list")
        self.assertEqual(state_of(town, ("lose",), ("cut", "a"))[2], (True, False))
        self.assertEqual(word_of(town, ("cut", "a"), ("lose",), ("pay", "a", 1)), "taken")
        self.assertEqual(state_of(town, ("cut", "a"), ("lose",))[2], (False, False))

    def test_what_was_heard_is_kept(self):
        town = Town.even(2, 9, 1).changed("tops", 2)
        events = [("pay", "b", 1), ("cut", "a"), ("top", 2)]
        self.assertEqual(word_of(town, *events, ("pay", "a", 1)), "list")
        self.assertEqual(state_of(town, *events), ((False, True), (0, 0), (True, False), 0, 2, False, 0))
        self.assertEqual(word_of(town, *events, ("line", "a"), ("cut", "a"), ("pay", "a", 1)), "taken")

    def test_a_deaf_till_hears_and_does_not_heed(self):
        town = Town([Till("a", 9, heeds=False)])
        self.assertEqual(state_of(town, ("cut", "a"))[2], (True,))
        self.assertEqual(word_of(town, ("cut", "a"), ("pay", "a", 1)), "taken")
        self.assertEqual(word_of(town, ("lose",), ("cut", "a"), ("pay", "a", 2)), "taken")

    def test_while_another_till_of_the_group_has_a_line(self):
        town = Town.even(3, 9, 1).with_links([("a", "b"), ("b", "c")]).changed("tops", 1)
        events = [("cut", "a"), ("cut", "c")]
        self.assertEqual(word_of(town, *events, ("pay", "a", 1)), "taken")
        spent = [*events, ("pay", "b", 1)]
        self.assertEqual(word_of(town, *spent, ("pay", "a", 1)), "list")
        self.assertEqual(word_of(town, *spent, ("pay", "c", 1)), "list")
        self.assertEqual(word_of(town, *spent, ("top", 1), ("pay", "c", 1)), "taken")
        self.assertEqual(word_of(town, *events, ("lose",), ("pay", "c", 1)), "list")
        self.assertEqual(state_of(town, *spent)[2], (False, False, False))

    def test_when_the_last_line_of_a_group_is_cut(self):
        town = Town.even(3, 9, 1).with_links([("a", "b")]).changed("tops", 1)
        spent = [("cut", "a"), ("pay", "b", 1), ("cut", "b")]
        self.assertEqual(state_of(town, *spent)[2], (True, True, False))
        for name in "ab":
            self.assertEqual(word_of(town, *spent, ("top", 1), ("pay", name, 1)), "list")
        self.assertEqual(word_of(town, *spent, ("pay", "c", 1)), "house")
        rich = [("cut", "a"), ("cut", "b"), ("pay", "c", 1)]
        self.assertEqual(state_of(town, *rich)[2], (False, False, False))
        self.assertEqual(word_of(town, *rich, ("pay", "a", 1)), "taken")

    def test_a_line_that_comes_back_to_the_group(self):
        town = Town.even(2, 9, 1).with_links([("a", "b")]).changed("tops", 1)
        events = [("pay", "a", 1), ("cut", "a"), ("cut", "b"), ("top", 1)]
        self.assertEqual(state_of(town, *events)[2], (True, True))
        state = state_of(town, *events, ("line", "b"))
        self.assertEqual(state[2], (False, False))
        self.assertEqual(after(town, state, ("pay", "a", 1))[1], "taken")


class Lines(unittest.TestCase):
    def test_a_telling_is_taken_from_what_is_left(self):
        town = Town.even(2, 9, 5)
        events = [("cut", "a"), ("cut", "b"), ("pay", "a", 2), ("pay", "b", 1)]
        self.assertEqual(state_of(town, *events, ("line", "a")),
                         ((True, False), (0, 1), (False, False), 0, 3, False, 0))
        self.assertEqual(state_of(town, *events, ("line", "a"), ("line", "b")),
                         ((True, True), (0, 0), (False, False), 0, 2, False, 0))

    def test_exactly_nothing_and_less_than_nothing(self):
        for tops in range(6):
            town = Town.even(1, 9, 2).changed("tops", tops)
            for units in range(1, 10):
                events = [("cut", "a")] + [("pay", "a", 1)] * units + [("line", "a")]
                self.assertEqual(state_of(town, *events), ((True,), (0,), (False,), 0, max(2 - units, -tops), False,
                                                           tops))

    def test_what_a_telling_can_be_topped_up(self):
        town = Town.even(1, 9, 0).changed("tops", 5).with_till(Till("a", 9, heeds=False))
        events = [("cut", "a"), ("pay", "a", 2), ("pay", "a", 1), ("line", "a")]
        state = state_of(town, *events)
        self.assertEqual((state[4], state[6]), (-3, 5))
        state = state_of(town, *events, ("top", 2))
        self.assertEqual((state[4], state[6]), (-1, 3))
        self.assertEqual(word_of(town, *events, ("top", 2), ("cut", "a"), ("pay", "a", 1)), "taken")
        state = state_of(town, *events, ("top", 2), ("top", 2))
        self.assertEqual((state[4], state[6]), (1, 1))
        self.assertEqual(word_of(town, *events, ("top", 2), ("top", 2), ("pay", "a", 1)), "taken")

    def test_a_till_that_took_nothing(self):
        town = Town.even(1, 9, 5)
        self.assertEqual(state_of(town, ("cut", "a"), ("line", "a")), first_state(town))


class TopsAndLosses(unittest.TestCase):
    def test_until_the_tops_are_used_up(self):
        town = Town.even(1, 0, 0).changed("tops", 3)
        self.assertEqual(behind(town, ("top", 2)), (((True,), (0,), (False,), 0, 2, False, 1), "done"))
        self.assertIs(can_be(town, state_of(town, ("top", 2)), ("top", 2)), False)
        self.assertIs(can_be(town, state_of(town, ("top", 2)), ("top", 1)), True)
        self.assertEqual(behind(town, ("top", 2), ("top", 1)), (((True,), (0,), (False,), 0, 3, False, 0), "done"))
        self.assertIs(can_be(town, state_of(town, ("top", 2), ("top", 1)), ("top", 1)), False)

    def test_not_behind_a_loss(self):
        town = Town.even(1, 0, 1).changed("tops", 5)
        self.assertEqual(behind(town, ("lose",)), (((True,), (0,), (False,), 0, 1, True, 0), "done"))
        for units in (1, 2):
            self.assertIs(can_be(town, state_of(town, ("lose",)), ("top", units)), False)

    def test_only_one_loss(self):
        town = Town.even(1, 0, 1)
        self.assertIs(can_be(town, state_of(town, ("lose",)), ("lose",)), False)

    def test_a_loss_with_less_than_nothing_left(self):
        town = Town([Till("a", 9, heeds=False)], tops=5)
        events = [("cut", "a"), ("pay", "a", 2), ("line", "a")]
        self.assertEqual(state_of(town, *events)[4], -2)
        self.assertEqual(state_of(town, *events, ("lose",)), ((True,), (0,), (False,), 0, 0, True, 0))


class Gain(unittest.TestCase):
    def test_gain(self):
        for units in (1, 2):
            self.assertEqual(gain(("pay", "a", units), "taken"), units)
            for word in ("house", "list", "limit", "memory"):
                self.assertEqual(gain(("pay", "a", units), word), 0)
            self.assertEqual(gain(("top", units), "done"), -units)
        for event in [("cut", "a"), ("line", "a"), ("lose",), ("again", "a")]:
            self.assertEqual(gain(event, "done"), 0)
        self.assertEqual(gain(word="taken", event=("pay", "b", 2)), 2)


class Form(unittest.TestCase):
    def brute(self, town, value):
        """Whether a tuple of tuples of integers and truths is a state, by the words of the document."""
        lines, untold, heard, remembered, left, lost, tops = value
        names = town.names()
        most = town.memory[1] if len(town.memory) == 2 else 0
        if not 0 <= remembered <= most or not 0 <= tops <= town.tops or lost and tops:
            return False
        if not -tops <= left <= town.money + town.tops:
            return False
        for name, line, units in zip(names, lines, untold):
            if not 0 <= units <= (0 if line else town[name].limit):
                return False
        for name, told in zip(names, heard):
            group = [names.index(one) for one in town.group(name)]
            if len({heard[at] for at in group}) > 1 or told and any(lines[at] for at in group):
                return False
        return True

    def check_all(self, town):
        truths = list(itertools.product((True, False), repeat=len(town)))
        units = list(itertools.product((-1, 0, 1, 2), repeat=len(town)))
        count = 0
        for value in itertools.product(truths, units, truths, (-1, 0, 1, 2), range(-3, 6), (True, False),
                                       (-1, 0, 1, 2)):
            expected = self.brute(town, value)
            count += expected
            self.assertIs(is_state(town, value), expected, value)
        self.assertGreater(count, 20)

    def test_all_small_values_of_one_till(self):
        self.check_all(Town.even(1, 1, 2).changed("tops", 1).changed("memory", ("sum", 1)))
        self.check_all(Town.even(1, 2, 1).changed("tops", 2))
        self.check_all(Town.even(1, 1, 3).changed("memory", ("times", 2)).with_till(Till("a", 1, heeds=False)))

    def test_groups(self):
        base = (0, 1, False, 0)
        truths = list(itertools.product((True, False), repeat=3))
        for links in ([], [("a", "c")], [("a", "b"), ("b", "c")]):
            town = Town([Till("b", 1), Till("a", 0), Till("c", 2)], links=links, money=1)
            for lines in truths:
                for heard in truths:
                    for untold in itertools.product((0, 1, 2), repeat=3):
                        value = (lines, untold, heard, *base)
                        self.assertIs(is_state(town, value), self.brute(town, value), value)

    def test_reached_states_have_the_form(self):
        for town, events in random_runs(1, 150, 25, agains=False):
            state = first_state(town)
            for event in events:
                state, _ = after(town, state, event)
                self.assertIs(is_state(town, state), True)

    def test_each_place_with_any_value(self):
        town = Town.even(2, 2, 2).changed("tops", 2).changed("memory", ("sum", 2))
        state = ((False, True), (1, 0), (False, False), 1, 1, False, 1)
        self.assertIs(is_state(town, state), True)
        self.assertIs(is_state(value=state, town=town), True)
        values = any_values() + [None, "1", [1], (1,), b"1"]
        kinds = {3: int, 4: int, 5: bool, 6: int}
        for place in range(7):
            for value in values:
                if type(value) is not kinds.get(place):
                    self.assertIs(is_state(town, state[:place] + (value,) + state[place + 1:]), False)

    def test_truths_and_integers(self):
        town = Town.even(2, 2, 2).changed("tops", 2).changed("memory", ("sum", 2))
        state = ((False, True), (1, 0), (False, False), 1, 1, False, 1)
        wrong = [((0, True), 0), ((False, 1), 0), ((True, 0), 1), ((1, False), 1), ((0, False), 2), ((False, 0), 2),
                 (True, 3), (False, 3), (True, 4), (False, 4), (0, 5), (1, 5), (True, 6), (False, 6),
                 ([False, True], 0), ([1, 0], 1), ([False, False], 2), ((False,), 0), ((1,), 1), ((False,), 2),
                 ((False, True, True), 0), ((1, 0, 0), 1), ((False, False, False), 2), ((), 0), ((), 1), ((), 2),
                 (None, 0), (None, 1), (None, 2)]
        for value, place in wrong:
            self.assertIs(is_state(town, state[:place] + (value,) + state[place + 1:]), False, (value, place))
        for value in odd_values():
            for row, place in (((value, True), 0), ((1, value), 1), ((value, False), 2), ((value, 0), 1)):
                self.assertIs(is_state(town, state[:place] + (row,) + state[place + 1:]), False)

    def test_other_values(self):
        town = Town.even(1, 1, 1)
        state = first_state(town)
        for value in any_values() + [list(state), state[:6], state + (0,), [state], (state,), state[::-1]]:
            self.assertIs(is_state(town, value), False)

    def test_a_state_of_another_town(self):
        self.assertIs(is_state(Town.even(2, 1, 1), first_state(Town.even(1, 1, 1))), False)
        self.assertIs(is_state(Town.even(1, 1, 1), first_state(Town.even(1, 1, 2))), False)

    def test_edges(self):
        town = Town.even(1, 9, 9).changed("tops", 5).changed("memory", ("times", 9))
        for value, holds in [(((False,), (9,), (True,), 9, 14, False, 5), True),
                             (((False,), (10,), (True,), 9, 14, False, 5), False),
                             (((False,), (9,), (True,), 10, 14, False, 5), False),
                             (((False,), (9,), (True,), 9, 15, False, 5), False),
                             (((False,), (9,), (True,), 9, 14, False, 6), False),
                             (((False,), (9,), (True,), 9, 14, True, 5), False),
                             (((False,), (9,), (True,), 9, 14, True, 0), True),
                             (((False,), (9,), (True,), 9, -5, False, 5), True),
                             (((False,), (9,), (True,), 9, -6, False, 5), False),
                             (((False,), (9,), (True,), 9, -5, False, 4), False),
                             (((False,), (9,), (True,), 9, 0, True, 0), True),
                             (((False,), (9,), (True,), 9, -1, True, 0), False),
                             (((True,), (0,), (True,), 0, 0, False, 0), False),
                             (((True,), (1,), (False,), 0, 0, False, 0), False),
                             (((True,), (0,), (False,), 0, 0, False, 0), True)]:
            self.assertIs(is_state(town, value), holds, value)


class Plainly(unittest.TestCase):
    def test_random_runs(self):
        for town, events in random_runs(2, 250, 30, agains=False):
            plain = Plain(town)
            state = first_state(town)
            self.assertEqual(state, plain.state())
            for event in events:
                self.assertEqual(choices(town, state), plain_choices(plain))
                state, word = after(town, state, event)
                self.assertEqual(word, plain.do(event))
                self.assertEqual(state, plain.state())


if __name__ == "__main__":
    unittest.main()
