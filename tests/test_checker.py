"""The checker: which papers it lets, whoever wrote them, and which it does not."""

import copy
import unittest

import plainpapers
from cutofftills.checker import lets_loss, lets_most, lets_refusal, lets_twice
from cutofftills.papers import loss_paper, most_paper, refusal_paper, twice_paper
from cutofftills.states import first_state
from cutofftills.tills import Till
from cutofftills.towns import Town
from odd import any_values, odd_values
from plain import plain_refusals, plain_steps, plain_twice, plain_worst, small_towns
from test_worst import deaf

CHECKS = ((most_paper, lets_most, plainpapers.lets_most), (loss_paper, lets_loss, plainpapers.lets_loss),
          (refusal_paper, lets_refusal, plainpapers.lets_refusal), (twice_paper, lets_twice, plainpapers.lets_twice))


def lean_towns():
    """Towns of each kind with few states."""
    towns = [town for town in small_towns()[::9] if len(plainpapers.Book(town).states) < 120]
    towns.extend([deaf(1), deaf(1, tops=1, money=1), Town.even(2, 1, 1), Town.even(1, 3, 1).changed("tops", 1),
                  Town([Till("a", 1), Till("b", 2)], links=[("a", "b")], money=1, numbered=False),
                  Town([Till("a", 1, heeds=False)], memory=("sum", 1), numbered=False)])
    return towns


class Bent(unittest.TestCase):
    """Bent papers are let just where a plain checker lets them, and then what they say is so."""

    def test_bent_papers(self):
        let = 0
        for number, town in enumerate(lean_towns()):
            book = plainpapers.Book(town)
            truth = Truth(town)
            for write, lets, plainly in CHECKS:
                for value in plainpapers.bent_papers(town, write(town), number):
                    kept = copy.deepcopy(value)
                    expected = plainly(book, value)
                    self.assertIs(lets(town, value), expected, (town.names(), value))
                    self.assertEqual(value, kept)
                    if expected:
                        let += 1
                        self.assertTrue(truth.holds(write, value), value)
        self.assertGreater(let, 1000)

    def test_papers_of_other_hands(self):
        several = 0
        for town in lean_towns():
            book = plainpapers.Book(town)
            for write, lets, _ in CHECKS[:2]:
                paper = write(town)
                if paper[0] == "most":
                    papers = plainpapers.other_hands(book, paper, write is loss_paper)
                    several += len(papers) > 3
                    for value in papers:
                        self.assertIs(lets(town, value), True, value[:3])
        self.assertGreater(several, 10)

    def test_papers_of_other_questions(self):
        for number, town in enumerate(lean_towns()[::3]):
            book = plainpapers.Book(town)
            for write, _, _ in CHECKS:
                for _, lets, plainly in CHECKS:
                    self.assertIs(lets(town, write(town)), plainly(book, write(town)))

    def test_papers_of_other_towns(self):
        towns = lean_towns()[::4]
        for town, other in zip(towns, towns[1:] + [Town.even(1, 1, 1)]):
            book = plainpapers.Book(town)
            for write, lets, plainly in CHECKS:
                self.assertIs(lets(town, write(other)), plainly(book, write(other)))


class Truth:
    """What plain searches tell of a town."""

    def __init__(self, town):
        table = plain_steps(town)
        self.most = plain_worst(town, table, False)[0]
        self.loss = plain_worst(town, table, True)[0]
        self.refused = bool(plain_refusals(town))
        self.twice = plain_twice(town) is not None

    def holds(self, write, paper):
        if write in (most_paper, loss_paper):
            most = self.most if write is most_paper else self.loss
            return most is None if paper[0] == "ring" else paper[1] == most
        return (paper[0] == "run") == (self.refused if write is refusal_paper else self.twice)


class Most(unittest.TestCase):
    def setUp(self):
        self.town = Town.even(1, 3, 1)
        self.paper = most_paper(self.town)
        self.assertEqual(self.paper[1], 2)

    def check(self, expected, *parts):
        self.assertIs(lets_most(self.town, ("most",) + parts), expected)

    def test_the_number(self):
        _, most, events, rows = self.paper
        self.check(True, 2, events, rows)
        for other in (0, 1, 3, -2, True, None, "2", [2], (2,)):
            self.check(False, other, events, rows)
        # Less is overspent in a run that is cut, and the heights are above that.
        self.check(False, 1, events[:-1], rows)
        self.check(False, 0, [], rows)
        self.check(False, 3, events + [("pay", "a", 1)], rows)
        # A refused payment more changes nothing.
        self.check(True, 2, events + [("pay", "a", 2)], rows)

    def test_another_run_that_comes_to_it(self):
        rows = self.paper[3]
        self.check(True, 2, [("cut", "a"), ("pay", "a", 1), ("pay", "a", 1), ("pay", "a", 1), ("line", "a")], rows)
        self.check(True, 2, [("pay", "a", 2), ("cut", "a"), ("pay", "a", 2), ("pay", "a", 1)], rows)
        self.check(False, 2, [("pay", "a", 1), ("cut", "a"), ("pay", "a", 2), ("pay", "a", 1)], rows)

    def test_again(self):
        for numbered in (True, False):
            town = self.town.changed("numbered", numbered)
            _, most, events, rows = most_paper(town)
            self.assertIs(lets_most(town, ("most", most, events + [("line", "a")], rows)), True)
            self.assertIs(lets_most(town, ("most", most, events + [("line", "a"), ("again", "a")], rows)), False)

    def test_heights(self):
        _, most, events, rows = self.paper
        tops = {state: height for state, height in rows if height == 3}
        self.assertGreater(len(tops), 0)
        self.assertEqual(max(height for _, height in rows), 3)
        for at, (state, height) in enumerate(rows):
            if state in tops:
                self.check(False, most, events, rows[:at] + [(state, 4)] + rows[at + 1:])
            self.check(False, most, events, rows[:at] + rows[at + 1:])
            self.check(False, most, events, rows + [(state, height)])
            self.check(False, most, events, rows + [(state, height + 1)])
            self.check(False, most, events, rows[:at] + [(state, -1)] + rows[at + 1:])
        self.check(True, most, events, rows[::-1])

    def test_the_first_height(self):
        # All heights one less hold together, but the first one is below 0.
        _, most, events, rows = self.paper
        self.check(False, most, events, [(state, height - 1) for state, height in rows])
        town = Town.even(1, 0, 3)
        _, most, events, rows = most_paper(town)
        raised = [(state, height + 1) for state, height in rows]
        self.assertIs(lets_most(town, ("most", 0, [], raised)), False)
        town = Town.even(1, 0, 0)
        raised = [(state, 3) for state, _ in most_paper(town)[3]]
        self.assertIs(lets_most(town, ("most", 0, [], raised)), False)

    def test_states_that_are_none(self):
        _, most, events, rows = self.paper
        for state in [(), (1,), None, list(rows[0][0]), rows[0][0] + (0,), rows[0][0][:6],
                      ((False,), (4,), (False,), 0, 1, False, 0), ((True,), (1,), (False,), 0, 1, False, 0),
                      ((True,), (0,), (False,), 0, True, False, 0), ((True,), (0,), (False,), False, 1, False, 0),
                      ((1,), (0,), (False,), 0, 1, False, 0)]:
            self.check(False, most, events, rows + [(state, 0)])
        self.check(False, most, events, [])


class Loss(unittest.TestCase):
    def test_units_behind_the_loss(self):
        town = Town.even(1, 3, 1)
        _, most, events, rows = loss_paper(town)
        self.assertEqual(most, 3)
        self.assertIs(lets_loss(town, ("most", 3, events, rows)), True)
        self.assertIs(lets_loss(town, ("most", 2, events[:-1], rows)), False)
        self.assertIs(lets_loss(town, ("most", 3, events, [(state, height + 1) for state, height in rows])), False)
        self.assertIs(lets_loss(town, ("most", 3, [event for event in events if event[0] != "lose"], rows)), False)
        self.assertIs(lets_loss(town, most_paper(town)), False)
        self.assertIs(lets_most(town, ("most", 3, events, rows)), False)

    def test_nothing_paid(self):
        town = Town.even(1, 0, 1)
        paper = loss_paper(town)
        self.assertEqual(paper[:3], ("most", 0, []))
        for events in ([], [("lose",)], [("pay", "a", 1), ("lose",), ("pay", "a", 1)]):
            self.assertIs(lets_loss(town, ("most", 0, events, paper[3])), True)


class Rings(unittest.TestCase):
    def setUp(self):
        self.town = deaf(1)

    def check(self, expected, lead, ring, lets=lets_most):
        self.assertIs(lets(self.town, ("ring", lead, ring)), expected)

    def test_more_is_paid(self):
        ring = [("cut", "a"), ("pay", "a", 1), ("line", "a")]
        self.check(True, [], ring)
        self.check(True, [], ring + ring)
        self.check(True, ring, ring)
        self.check(True, [("cut", "a")], [("pay", "a", 1), ("line", "a"), ("cut", "a")])
        self.check(True, [("lose",)], ring)
        self.check(True, [("lose",)], ring, lets_loss)
        self.check(False, [], ring, lets_loss)
        self.check(False, [], [("lose",)] + ring)

    def test_nothing_is_paid(self):
        self.check(False, [], [])
        self.check(False, [], [("cut", "a"), ("line", "a")])
        self.check(False, [], [("pay", "a", 1)])
        self.check(False, [("cut", "a")], [("pay", "a", 1)])
        self.check(False, [], [("line", "a")])
        self.check(False, [("line", "a")], [])

    def test_agains(self):
        ring = [("cut", "a"), ("pay", "a", 1), ("line", "a")]
        for town in (self.town, self.town.changed("numbered", False)):
            self.town = town
            self.check(False, [], ring + [("again", "a")])
            self.check(False, ring + [("again", "a")], ring)

    def test_kinds(self):
        ring = [("cut", "a"), ("pay", "a", 1), ("line", "a")]
        self.check(False, (), ring)
        self.check(False, [], tuple(ring))
        self.check(False, [], [list(event) for event in ring])
        self.check(False, [], [("cut", "a"), ("pay", "a", True), ("line", "a")])
        self.check(False, None, ring)
        self.check(False, [], None)

    def test_top_ups_weigh_against_payments(self):
        town = Town([Till("a", 1, heeds=False)], tops=5)
        ring = [("cut", "a"), ("pay", "a", 1), ("line", "a")]
        self.assertIs(lets_most(town, ("ring", [("top", 2), ("pay", "a", 2)], ring)), False)
        lead = [("cut", "a"), ("pay", "a", 1), ("line", "a")] * 5
        self.assertIs(lets_most(town, ("ring", lead, ring)), True)
        self.assertIs(lets_most(town, ("ring", lead, [("top", 1)] + ring)), False)


class Refusals(unittest.TestCase):
    def check(self, town, expected, *value):
        self.assertIs(lets_refusal(town, value), expected)

    def test_runs(self):
        town = Town.even(1, 1, 2)
        self.check(town, True, "run", [("cut", "a"), ("pay", "a", 2)])
        self.check(town, True, "run", [("cut", "a"), ("pay", "a", 1), ("pay", "a", 1)])
        self.check(town, True, "run", [("cut", "a"), ("pay", "a", 2), ("pay", "a", 2)])
        self.check(town, False, "run", [("cut", "a"), ("pay", "a", 1), ("pay", "a", 2)])
        self.check(town, False, "run", [("cut", "a"), ("pay", "a", 1)])
        self.check(town, False, "run", [("pay", "a", 1), ("cut", "a"), ("pay", "a", 2)])
        self.check(town, False, "run", [("lose",), ("cut", "a"), ("pay", "a", 2)])
        self.check(town, False, "run", [("lose",), ("pay", "a", 1)])
        self.check(town, False, "run", [("cut", "a"), ("pay", "a", 2), ("line", "a")])
        self.check(town, False, "run", [])
        self.check(town, False, "run", (("cut", "a"), ("pay", "a", 2)))
        self.check(town, False, "run", [["cut", "a"], ("pay", "a", 2)])
        self.check(town, False, "run", [("pay", "a", 2)])
        self.check(town, False, "run", [("line", "a"), ("cut", "a"), ("pay", "a", 2)])

    def test_agains(self):
        town = Town.even(1, 1, 3).changed("numbered", False)
        ahead = [("cut", "a"), ("pay", "a", 1), ("line", "a")]
        self.check(town, True, "run", ahead + [("cut", "a"), ("pay", "a", 2)])
        self.check(town, False, "run", ahead + [("again", "a"), ("cut", "a"), ("pay", "a", 2)])
        self.check(town.changed("numbered", True), False, "run",
                   ahead + [("again", "a"), ("cut", "a"), ("pay", "a", 2)])

    def test_never(self):
        town = Town.even(1, 2, 2)
        word, states = refusal_paper(town)
        self.assertEqual(word, "never")
        self.check(town, True, "never", states)
        self.check(town, True, "never", states[::-1])
        self.check(town, True, "never", states + states[:2])
        for at, state in enumerate(states):
            self.check(town, False, "never", states[:at] + states[at + 1:])
            lost = state[:5] + (True, 0)
            self.check(town, False, "never", states + [lost])
        self.check(town, False, "never", tuple(states))
        self.check(town, False, "never", [])
        self.check(town, False, "never", [list(state) for state in states])
        self.check(town, False, "never", states, None)
        self.check(Town.even(1, 1, 2), False, "never", states)
        self.check(Town.even(1, 1, 2), False, "never", [first_state(Town.even(1, 1, 2))])


class Twice(unittest.TestCase):
    def test_runs(self):
        town = Town.even(1, 2, 2).changed("numbered", False)
        events = [("cut", "a"), ("pay", "a", 1), ("line", "a"), ("again", "a")]
        for value, expected in [(events, True), ([("lose",)] + events, False), (events[:-1], False), ([], False),
                                (events + events[-1:], False), (events[:2] + [("line", "a")], False),
                                (tuple(events), False), ([("cut", "a"), ("line", "a"), ("again", "a")], False),
                                (events[:3] + [("lose",), ("again", "a")], True),
                                (events[:3] + [("pay", "a", 2), ("again", "a")], True),
                                (events[:3] + [("cut", "a"), ("line", "a"), ("again", "a")], False),
                                (events + [("cut", "a")], False), (events[:3] + [["again", "a"]], False)]:
            self.assertIs(lets_twice(town, ("run", value)), expected, value)
            self.assertIs(lets_twice(town.changed("numbered", True), ("run", value)), False)

    def test_never(self):
        town = Town.even(1, 0, 1).changed("numbered", False)
        states = twice_paper(town)[1]
        self.assertIs(lets_twice(town, ("never", states[::-1])), True)
        self.assertIs(lets_twice(town, ("never", [])), False)
        for at in range(len(states)):
            self.assertIs(lets_twice(town, ("never", states[:at] + states[at + 1:])), False)
        numbered = town.changed("numbered", True)
        self.assertIs(lets_twice(numbered, ("never", [])), True)
        for value in (states, states[:1], (), None, {}, [None], 0):
            self.assertIs(lets_twice(numbered, ("never", value)), False)

    def test_untold_states(self):
        town = Town.even(1, 1, 1).changed("numbered", False)
        states = plainpapers.Book(town).states
        self.assertIs(lets_twice(town, ("never", states)), False)
        self.assertIs(lets_twice(town, ("never", [state for state in states if not any(state[1])])), False)


class AnyValues(unittest.TestCase):
    def test_any_values(self):
        town = Town.even(1, 1, 1).changed("numbered", False)
        for _, lets, _ in CHECKS:
            for value in any_values():
                self.assertIs(lets(town, value), False)
            for value in odd_values():
                for word in ("most", "ring", "run", "never"):
                    for parts in ((value,), (value, []), ([], value), (value, [], []), ([], value, []),
                                  (0, [], value), (0, value, []), (0, [], [value]), (0, [], [(value, 0)])):
                        self.assertIs(lets(town, (word,) + parts), False)

    def test_one_part_of_another_kind(self):
        for town in (Town.even(1, 1, 1), deaf(1), Town.even(1, 0, 0).changed("numbered", False)):
            for write, lets, _ in CHECKS:
                paper = write(town)
                for at in range(len(paper)):
                    for value in odd_values():
                        self.assertIs(lets(town, paper[:at] + (value,) + paper[at + 1:]), False)
                        if isinstance(paper[at], list):
                            self.assertIs(lets(town, paper[:at] + (paper[at] + [value],) + paper[at + 1:]), False)

    def test_by_name(self):
        town = Town.even(1, 1, 1)
        for write, lets, _ in CHECKS:
            self.assertIs(lets(value=write(town), town=town), True)


if __name__ == "__main__":
    unittest.main()
