"""Runs: which there are, and what is told of them."""

import unittest

from cutofftills.errors import BadEvent, TownError
from cutofftills.lives import Life
from cutofftills.runs import Run, wrong_refusals
from cutofftills.states import first_state
from cutofftills.tills import Till
from cutofftills.towns import Town
from odd import any_values, odd_values
from plain import Plain, all_events, random_runs

CUT, LINE, AGAIN = ("cut", "a"), ("line", "a"), ("again", "a")
ONE, TWO = ("pay", "a", 1), ("pay", "a", 2)


def unnumbered(many=1, limit=9, money=9, **parts):
    town = Town.even(many, limit, money).changed("numbered", False)
    for part, value in parts.items():
        town = town.changed(part, value)
    return town


class Made(unittest.TestCase):
    def check(self, index, town, events):
        with self.assertRaises(BadEvent) as caught:
            Run(town, events)
        self.assertEqual(caught.exception.index, index)
        self.assertIs(type(caught.exception.index), type(index))

    def test_attributes(self):
        town = Town.even(1, 2, 3)
        run = Run(town, [CUT, ONE])
        self.assertEqual(run.town, town)
        self.assertEqual(run.events, (CUT, ONE))
        self.assertIs(type(run.events), tuple)
        self.assertEqual(Run(events=(CUT, ONE), town=town), run)

    def test_no_list(self):
        for value in odd_values() + [True, 1, "", "cut a", CUT[0]]:
            self.check(None, Town.even(1, 1, 1), value)

    def test_the_first_event_that_is_none_or_cannot_be(self):
        town = Town.even(1, 1, 1)
        self.check(0, town, [LINE])
        self.check(0, town, CUT)
        self.check(1, town, [CUT, CUT])
        self.check(2, town, [CUT, LINE, LINE])
        self.check(1, town, [CUT, ("cut", "b"), CUT])
        self.check(1, town, [CUT, ("top", 1)])
        self.check(1, town, [("lose",), ("lose",)])
        self.check(0, town, [AGAIN])
        self.check(2, town, [CUT, LINE, AGAIN])
        self.check(1, town.changed("tops", 1), [("lose",), ("top", 1)])
        self.check(1, town.changed("tops", 2), [("top", 1), ("top", 2)])

    def test_entries_of_any_kind(self):
        for value in any_values():
            self.check(0, Town.even(1, 1, 1), [value])
            self.check(2, Town.even(1, 1, 1), (ONE, TWO, value, value))
        for value in odd_values():
            self.check(1, Town.even(1, 1, 1), [CUT, ("pay", "a", value)])
            self.check(1, Town.even(1, 1, 1), [CUT, ["pay", "a", 1], value])

    def test_a_town_error(self):
        with self.assertRaises(TownError):
            Run(Town.even(1, 1, 1), [LINE])

    def test_the_empty_run(self):
        town = Town.even(2, 3, 4).changed("tops", 2)
        for events in ([], ()):
            run = Run(town, events)
            self.assertEqual((run.words(), run.state(), run.left()), ([], first_state(town), 4))
            self.assertEqual((run.paid(), run.topped(), run.paid_after_loss(), run.overspent()), (0, 0, 0, 0))
            self.assertIs(run.is_honest(), True)
            self.assertIs(run.is_wronged(), False)
            self.assertEqual((run.untold(), len(run), run.events), ({"a": 0, "b": 0}, 0, ()))
            self.assertEqual(wrong_refusals(run), [])

    def test_a_list_that_is_changed_later(self):
        events = [CUT, ONE]
        run = Run(Town.even(1, 2, 3), events)
        events.append(ONE)
        events[0] = ONE
        self.assertEqual((run.events, run.words(), len(run)), ((CUT, ONE), ["done", "taken"], 2))
        self.assertEqual(events, [ONE, ONE, ONE])

    def test_what_is_told_is_new(self):
        run = Run(Town.even(1, 2, 3), [CUT, ONE, TWO])
        run.words().clear()
        run.untold().clear()
        wrong_refusals(run).append(7)
        self.assertEqual(run.words(), ["done", "taken", "limit"])
        self.assertEqual(run.untold(), {"a": 1})
        self.assertEqual(wrong_refusals(run), [2])
        self.assertEqual((type(run.words()), type(run.untold()), type(wrong_refusals(run))), (list, dict, list))


class Told(unittest.TestCase):
    def test_units(self):
        town = Town.even(2, 9, 3).changed("tops", 3)
        run = Run(town, [("pay", "b", 2), CUT, TWO, ("top", 2), ("top", 1), ONE, ("pay", "b", 2), ("pay", "b", 2),
                         ("pay", "b", 2), ("lose",), TWO, ("pay", "b", 1), ONE])
        self.assertEqual(run.words(), ["taken", "done", "taken", "done", "done", "taken", "taken", "taken",
                                       "house", "done", "taken", "house", "taken"])
        self.assertEqual((run.paid(), run.topped(), run.paid_after_loss(), run.overspent()), (12, 3, 3, 6))
        self.assertEqual((run.left(), run.untold(), len(run)), (0, {"a": 6, "b": 0}, 13))

    def test_less_than_nothing_is_left(self):
        town = Town.even(1, 9, 1).changed("tops", 2)
        run = Run(town, [CUT] + [TWO] * 4 + [LINE])
        self.assertEqual(run.left(), -7)
        self.assertEqual(run.state()[4], -2)
        self.assertEqual(run.overspent(), 7)
        run = run.then(("top", 2))
        self.assertEqual((run.left(), run.state()[4], run.overspent(), run.topped()), (-5, 0, 5, 2))
        run = Run(town, [CUT] + [TWO] * 4 + [LINE, ("lose",)])
        self.assertEqual((run.left(), run.state()[4]), (-7, 0))

    def test_nothing_is_overspent_below_nought(self):
        self.assertEqual(Run(Town.even(1, 9, 3), [TWO]).overspent(), 0)
        self.assertEqual(Run(Town.even(1, 9, 3), [TWO, ONE]).overspent(), 0)
        self.assertEqual(Run(Town.even(1, 9, 3), [CUT, TWO, TWO]).overspent(), 1)

    def test_behind_a_loss(self):
        town = Town.even(1, 9, 3)
        self.assertEqual(Run(town, [CUT, ONE, ("lose",)]).paid_after_loss(), 0)
        self.assertEqual(Run(town, [CUT, ONE, ("lose",), TWO, ONE]).paid_after_loss(), 3)
        self.assertEqual(Run(town, [CUT, ONE, TWO]).paid_after_loss(), 0)
        self.assertEqual(Run(town, [("lose",), ONE, CUT, ONE]).paid_after_loss(), 0)

    def test_then(self):
        run = Run(Town.even(1, 1, 3), [CUT])
        longer = run.then(ONE)
        self.assertEqual(longer, Run(Town.even(1, 1, 3), [CUT, ONE]))
        self.assertEqual((longer.words(), run.words()), (["done", "taken"], ["done"]))
        self.assertEqual(run.then(event=LINE).state(), first_state(run.town))

    def test_then_raises(self):
        run = Run(Town.even(1, 1, 3), [CUT])
        for value in any_values() + [CUT, AGAIN, ["pay", "a", 1], ("top", 1), ("line", "b"), ("pay", "a", True)]:
            with self.assertRaises(BadEvent) as caught:
                run.then(value)
            self.assertIs(caught.exception.index, value)
        self.assertEqual(run, Run(Town.even(1, 1, 3), [CUT]))

    def test_then_knows_what_was_told(self):
        run = Run(unnumbered(), [CUT, TWO, LINE])
        self.assertEqual(run.then(AGAIN).left(), 5)
        self.assertEqual(run.then(AGAIN).then(AGAIN).left(), 3)

    def test_equal_if_towns_and_events_are(self):
        runs = [Run(Town.even(1, 1, 1), []), Run(Town.even(1, 1, 2), []), Run(Town.even(1, 1, 1), [CUT]),
                Run(Town.even(1, 1, 1), [CUT, LINE]), Run(Town.even(1, 1, 1), [ONE])]
        twins = [Run(Town.even(1, 1, 1), ()), Run(Town.even(1, 1, 2), []), Run(Town.even(1, 1, 1), (CUT,)),
                 Run(Town.even(1, 1, 1), [CUT, LINE]), Run(Town.even(1, 1, 1), [ONE])]
        for at, one in enumerate(runs):
            for place, other in enumerate(twins):
                self.assertIs(one == other, at == place)
                self.assertIs(one != other, at != place)

    def test_other_classes_are_not_equal(self):
        run = Run(Town.even(1, 1, 1), [])
        for value in any_values() + [run.town, run.events, [], Life(run.town)]:
            self.assertIs(run == value, False)

    def test_the_example_of_the_document(self):
        run = Run(Town.even(2, 3, 1), [('cut', 'a'), ('cut', 'b'), ('pay', 'a', 2), ('pay', 'a', 1), ('pay', 'b', 2)])
        self.assertEqual([run.words()[2:], run.overspent(), run.untold()],
                         [['taken', 'taken', 'taken'], 4, {'a': 3, 'b': 2}])


class Agains(unittest.TestCase):
    def test_of_unnumbered_tellings(self):
        run = Run(unnumbered(), [CUT, TWO, ONE, LINE, AGAIN])
        self.assertEqual(run.words(), ["done", "taken", "taken", "done", "done"])
        self.assertEqual((run.left(), run.state()[4], run.paid(), run.overspent()), (3, 3, 3, 0))
        self.assertIs(run.is_wronged(), True)
        self.assertIs(Run(unnumbered(), [CUT, TWO, ONE, LINE]).is_wronged(), False)

    def test_of_numbered_tellings(self):
        town = unnumbered().changed("numbered", True)
        run = Run(town, [CUT, TWO, LINE, AGAIN, AGAIN])
        self.assertEqual((run.words()[3:], run.left(), run.state()[4]), (["done", "done"], 7, 7))
        self.assertEqual(run.state(), Run(town, [CUT, TWO, LINE]).state())
        self.assertIs(run.is_wronged(), False)

    def test_behind_a_line_a_cut_and_a_line(self):
        for town in (unnumbered(), unnumbered().changed("numbered", True)):
            for events, can in [([], False), ([ONE], False), ([CUT], False), ([CUT, ONE], False), ([CUT, LINE], False),
                                ([CUT, ONE, LINE], True), ([CUT, ONE, LINE, ONE], True),
                                ([CUT, ONE, LINE, AGAIN], True), ([CUT, ONE, LINE, CUT], False),
                                ([CUT, ONE, LINE, CUT, ONE], False), ([CUT, ONE, LINE, CUT, LINE], False),
                                ([CUT, ONE, LINE, CUT, LINE, ONE], False),
                                ([CUT, LINE, CUT, ONE, LINE], True), ([CUT, ONE, LINE, CUT, ONE, LINE], True)]:
                run = Run(town, events)
                if can:
                    self.assertEqual(run.then(AGAIN).words()[-1], "done")
                else:
                    with self.assertRaises(BadEvent):
                        run.then(AGAIN)

    def test_what_was_told_last_is_told_again(self):
        run = Run(unnumbered(), [CUT, TWO, LINE, CUT, ONE, LINE, AGAIN])
        self.assertEqual(run.left(), 5)

    def test_what_is_untold_is_not_told_again(self):
        town = unnumbered(many=2)
        run = Run(town, [CUT, ("cut", "b"), TWO, ("pay", "b", 1), LINE, AGAIN])
        self.assertEqual((run.left(), run.untold()), (5, {"a": 0, "b": 1}))
        self.assertIs(run.is_wronged(), True)

    def test_each_till_tells_what_it_told(self):
        town = unnumbered(many=2)
        run = Run(town, [CUT, ("cut", "b"), TWO, ("pay", "b", 1), LINE, ("line", "b")])
        self.assertEqual(run.left(), 6)
        self.assertEqual(run.then(AGAIN).left(), 4)
        self.assertEqual(run.then(("again", "b")).left(), 5)

    def test_the_state_is_told_only_as_far_as_can_be_topped_up(self):
        town = unnumbered(money=2, tops=3)
        run = Run(town, [CUT, TWO, ONE, LINE, AGAIN])
        self.assertEqual((run.left(), run.state()[4]), (-4, -3))
        run = run.then(("top", 2))
        self.assertEqual((run.left(), run.state()[4], run.state()[6]), (-2, -1, 1))
        run = run.then(AGAIN)
        self.assertEqual((run.left(), run.state()[4]), (-5, -1))
        self.assertEqual(run.then(("lose",)).then(AGAIN).state()[4], 0)

    def test_an_again_can_stop_the_card(self):
        town = unnumbered(money=4)
        self.assertEqual(Run(town, [CUT, TWO, LINE, AGAIN, ONE]).words()[-1], "house")
        run = Run(town, [CUT, TWO, LINE, AGAIN, CUT, ONE])
        self.assertEqual((run.words()[-1], run.state()[2]), ("list", (True,)))
        self.assertIs(run.is_honest(), True)
        self.assertEqual(wrong_refusals(run), [5])

    def test_is_wronged_for_good(self):
        run = Run(unnumbered(), [CUT, TWO, LINE, AGAIN, CUT, TWO, TWO, LINE])
        self.assertIs(run.is_wronged(), True)
        self.assertIs(Run(unnumbered(tops=2), [CUT, TWO, ("top", 2), LINE, ("lose",), AGAIN]).is_wronged(), True)
        self.assertIs(Run(unnumbered(tops=2), [CUT, TWO, ("top", 2), LINE, ("lose",), CUT, TWO]).is_wronged(), False)


class Honest(unittest.TestCase):
    def test_not_more_than_is_there(self):
        town = Town.even(1, 9, 3)
        self.assertIs(Run(town, [CUT, TWO, ONE]).is_honest(), True)
        self.assertIs(Run(town, [CUT, TWO, TWO]).is_honest(), False)
        self.assertIs(Run(town, [CUT, TWO, ONE, ONE]).is_honest(), False)
        self.assertIs(Run(town, [TWO, TWO]).is_honest(), False)
        self.assertIs(Run(town, [TWO, TWO, ONE]).is_honest(), False)

    def test_what_is_topped_up_ahead_counts(self):
        town = Town.even(1, 9, 0).changed("tops", 2)
        self.assertIs(Run(town, [("top", 2), TWO]).is_honest(), True)
        self.assertIs(Run(town, [TWO, ("top", 2)]).is_honest(), False)
        self.assertIs(Run(town, [("top", 1), TWO]).is_honest(), False)

    def test_payments_that_are_refused_are_not_paid_but_count(self):
        town = Town.even(1, 1, 2)
        self.assertIs(Run(town, [CUT, TWO, TWO, ONE, ONE]).is_honest(), True)
        self.assertIs(Run(town, [CUT, TWO, ONE, TWO]).is_honest(), False)

    def test_payments_behind_a_loss_do_not_count(self):
        town = Town.even(1, 9, 1)
        self.assertIs(Run(town, [CUT, ONE, ("lose",), TWO, TWO]).is_honest(), True)
        self.assertIs(Run(town, [CUT, TWO, ("lose",), TWO]).is_honest(), False)

    def test_what_is_there_and_what_the_house_knows(self):
        run = Run(Town.even(2, 9, 2), [CUT, TWO, ("pay", "b", 2)])
        self.assertEqual(run.words()[-1], "taken")
        self.assertIs(run.is_honest(), False)


class Refusals(unittest.TestCase):
    def test_honest_payments_that_are_refused(self):
        town = Town.even(1, 1, 3)
        self.assertEqual(wrong_refusals(Run(town, [CUT, TWO, ONE, TWO, ONE, ONE])), [1, 3, 4, 5])
        self.assertEqual(wrong_refusals(run=Run(town, [TWO, ONE])), [])

    def test_not_behind_one_that_is_not_honest(self):
        town = Town.even(1, 1, 1)
        self.assertEqual(wrong_refusals(Run(town, [CUT, TWO])), [])
        self.assertEqual(wrong_refusals(Run(town, [CUT, TWO, ONE, ONE])), [])
        zero = Town.even(1, 0, 1)
        self.assertEqual(wrong_refusals(Run(zero, [CUT, ONE, TWO, ONE])), [1])
        self.assertEqual(wrong_refusals(Run(zero, [CUT, ONE, ONE])), [1, 2])

    def test_not_behind_a_loss(self):
        town = Town.even(1, 0, 1)
        self.assertEqual(wrong_refusals(Run(town, [CUT, ONE, ("lose",), ONE])), [1])
        self.assertEqual(wrong_refusals(Run(town, [("lose",), ONE])), [])

    def test_all_words(self):
        town = Town.even(2, 1, 2).changed("tops", 2)
        self.assertEqual(wrong_refusals(Run(town, [TWO, CUT, ("top", 1), ONE])), [3])
        town = Town.even(1, 9, 2).changed("memory", ("times", 1))
        self.assertEqual(wrong_refusals(Run(town, [CUT, ONE, ONE])), [2])
        run = Run(unnumbered(money=4), [CUT, TWO, LINE, AGAIN, ONE, TWO])
        self.assertEqual(run.words()[4:], ["house", "house"])
        self.assertEqual(wrong_refusals(run), [4, 5])


class Plainly(unittest.TestCase):
    def test_random_runs(self):
        for town, events in random_runs(3, 400, 30):
            plain = Plain(town)
            refused, lost, honest = [], False, True
            for index, event in enumerate(events):
                room = plain.room()
                word = plain.do(event)
                lost = lost or event[0] == "lose"
                if event[0] == "pay" and not lost:
                    honest = honest and event[2] <= room
                    if honest and word != "taken":
                        refused.append(index)
            run = Run(town, events)
            self.assertEqual(run.words(), plain.words)
            self.assertEqual(run.state(), plain.state())
            self.assertEqual((run.left(), run.paid(), run.topped()), (plain.left, plain.paid, plain.topped))
            self.assertEqual((run.paid_after_loss(), run.overspent()), (plain.paid_after_loss, plain.overspent()))
            self.assertEqual(run.untold(), plain.untold)
            self.assertEqual(list(run.untold()), town.names())
            self.assertIs(run.is_honest(), honest)
            twice = sum(event[0] == "again" for event in events) > 0 and not town.numbered
            self.assertIs(run.is_wronged(), twice)
            self.assertEqual(wrong_refusals(run), refused)
            self.assertEqual(len(run), len(events))

    def test_what_can_be_next(self):
        for town, events in random_runs(4, 60, 20):
            plain = Plain(town)
            for event in events:
                plain.do(event)
            run = Run(town, events)
            for event in all_events(town):
                if plain.can(event):
                    self.assertEqual(run.then(event).events, tuple(events) + (event,))
                else:
                    with self.assertRaises(BadEvent):
                        run.then(event)


if __name__ == "__main__":
    unittest.main()
