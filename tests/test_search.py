"""The results held against the plain searches of the tests, over some hundreds of small towns."""

import unittest

from cutofftills.graphs import least_events, reached_states, steps
from cutofftills.honest import refusals_of, refused_run, taken_twice
from cutofftills.runs import Run, wrong_refusals
from cutofftills.worst import loss_run, most_after_loss, most_overspent, worst_run
from plain import plain_distances, plain_refusals, plain_steps, plain_twice, plain_worst, small_towns


class Searches(unittest.TestCase):
    def check_graph(self, town, table):
        states = reached_states(town)
        distances = plain_distances(town, table)
        self.assertEqual(len(states), len(set(states)))
        self.assertEqual(set(states), set(distances))
        lengths = [distances[state] for state in states]
        self.assertEqual(lengths, sorted(lengths))
        for state, rows in list(table.items())[::17]:
            self.assertEqual(steps(town, state), [row[:3] for row in rows])
        for state in states[::41]:
            events = least_events(town, state)
            self.assertEqual((Run(town, events).state(), len(events)), (state, distances[state]))

    def check_worst(self, town, most, fewest, told, count, risen):
        self.assertEqual(len(told), 2)
        self.assertNotIn("again", [event[0] for part in told for event in part])
        if most is not None:
            self.assertEqual((count(Run(town, told[0])), len(told[0]), told[1]), (most, fewest, []))
            return
        ahead, behind = Run(town, told[0]), Run(town, told[0] + told[1])
        self.assertEqual(ahead.state(), behind.state())
        self.assertGreater(risen(behind), risen(ahead))

    def check_honest(self, town):
        found = plain_refusals(town)
        self.assertEqual(refusals_of(town), sorted(found))
        events = refused_run(town)
        if not found:
            self.assertIsNone(events)
            return
        self.assertEqual(len(events), min(found.values()))
        self.assertEqual(wrong_refusals(Run(town, events)), [len(events) - 1])

    def check_twice(self, town):
        fewest = plain_twice(town)
        events = taken_twice(town)
        if fewest is None:
            self.assertIsNone(events)
            return
        self.assertEqual((len(events), events[-1][0]), (fewest, "again"))
        self.assertIs(Run(town, events[:-1]).is_wronged(), False)
        self.assertIs(Run(town, events).is_wronged(), True)

    def test_small_towns(self):
        unbounded = {"most": 0, "loss": 0}
        for town in small_towns():
            table = plain_steps(town)
            self.check_graph(town, table)
            most, fewest = plain_worst(town, table, False)
            self.assertEqual(most_overspent(town), most)
            self.check_worst(town, most, fewest, worst_run(town), Run.overspent, weight)
            unbounded["most"] += most is None
            most, fewest = plain_worst(town, table, True)
            self.assertEqual(most_after_loss(town), most)
            self.check_worst(town, most, fewest, loss_run(town), Run.paid_after_loss, Run.paid_after_loss)
            unbounded["loss"] += most is None
            self.check_honest(town)
            self.check_twice(town)
        self.assertGreater(min(unbounded.values()), 10)


def weight(run):
    """What is overspent, but not cut off below 0, as it may be in a ring."""
    return run.paid() - run.topped()


if __name__ == "__main__":
    unittest.main()
