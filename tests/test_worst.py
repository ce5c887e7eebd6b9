"""What can be overspent at most, and what can be paid after a loss."""

import unittest

from cutofftills.errors import TooMany
from cutofftills.runs import Run
from cutofftills.tills import Till
from cutofftills.towns import Town
from cutofftills.worst import loss_run, most_after_loss, most_overspent, worst_run
from test_graphs import LARGE, just_too_large, nearly_too_large


def deaf(limit, **parts):
    return Town([Till("a", limit, heeds=False)], **parts)


class Most(unittest.TestCase):
    def test_the_example_of_the_document(self):
        self.assertEqual([most_overspent(Town.even(2, 3, 1)), most_overspent(Town.even(2, 3, 0))], [5, 0])

    def test_tills_that_heed(self):
        self.assertEqual(most_overspent(town=Town.even(1, 3, 1)), 2)
        self.assertEqual(most_overspent(Town.even(1, 9, 9)), 8)
        self.assertEqual(most_overspent(Town.even(1, 0, 9)), 0)
        self.assertEqual(most_overspent(Town.even(2, 9, 9)), 17)
        self.assertEqual(most_overspent(Town.even(2, 3, 0).changed("tops", 1)), 5)
        self.assertEqual(most_overspent(Town([Till("a", 3), Till("b", 0)], money=1)), 3)

    def test_links(self):
        town = Town.even(2, 3, 1)
        self.assertEqual(most_overspent(town.with_links([("a", "b")])), 3)
        three = Town.even(3, 2, 1)
        self.assertEqual(most_overspent(three), 5)
        self.assertEqual(most_overspent(three.with_links([("a", "c")])), 4)
        self.assertEqual(most_overspent(three.with_links([("a", "c"), ("b", "c")])), 2)

    def test_memories(self):
        town = Town.even(2, 3, 1)
        self.assertEqual([most_overspent(town.changed("memory", ("sum", n))) for n in range(7)], [0, 2, 3, 3, 3, 4, 5])
        self.assertEqual([most_overspent(town.changed("memory", ("times", n))) for n in range(5)], [0, 3, 3, 4, 5])

    def test_no_bound(self):
        for town in (deaf(1), deaf(9, money=9), deaf(1, tops=5), deaf(1, money=2, numbered=False),
                     deaf(3, numbered=False), Town([Till("a", 2), Till("b", 1, heeds=False)], money=1)):
            self.assertIsNone(most_overspent(town))
            self.assertIsNone(most_after_loss(town))

    def test_deaf_tills_with_a_bound(self):
        self.assertEqual(most_overspent(deaf(0, money=5)), 0)
        self.assertEqual(most_overspent(deaf(9, money=1, memory=("sum", 4))), 4)
        self.assertEqual(most_overspent(deaf(9, money=0, memory=("times", 2))), 4)
        self.assertEqual(most_after_loss(deaf(9, money=0, memory=("times", 2))), 4)

    def test_after_a_loss(self):
        self.assertEqual(most_after_loss(town=Town.even(2, 3, 1)), 6)
        self.assertEqual(most_after_loss(Town.even(2, 3, 0)), 0)
        self.assertEqual(most_after_loss(Town.even(2, 3, 0).changed("tops", 1)), 6)
        self.assertEqual(most_after_loss(Town.even(2, 3, 1).with_links([("a", "b")])), 3)
        self.assertEqual(most_after_loss(Town.even(2, 0, 1)), 0)
        self.assertEqual(most_after_loss(Town.even(2, 3, 1).changed("memory", ("sum", 4))), 4)

    def test_too_many(self):
        for town in (just_too_large(), LARGE):
            for call in (most_overspent, worst_run, most_after_loss, loss_run):
                with self.assertRaises(TooMany) as caught:
                    call(town)
                self.assertEqual(caught.exception.limit, 20000)

    def test_nearly_too_many(self):
        town = nearly_too_large()
        most = most_overspent(town)
        self.assertEqual(Run(town, worst_run(town)[0]).overspent(), most)


class Runs(unittest.TestCase):
    def check(self, town, most, fewest):
        told = worst_run(town)
        self.assertEqual((type(told), type(told[0]), told[1]), (tuple, list, []))
        self.assertEqual(len(told), 2)
        self.assertEqual(Run(town, told[0]).overspent(), most)
        self.assertEqual(len(told[0]), fewest)
        self.assertEqual(most_overspent(town), most)

    def check_loss(self, town, most, fewest):
        told = loss_run(town)
        self.assertEqual((type(told), type(told[0]), told[1]), (tuple, list, []))
        self.assertEqual(Run(town, told[0]).paid_after_loss(), most)
        self.assertEqual(len(told[0]), fewest)
        self.assertEqual(most_after_loss(town), most)

    def check_ring(self, town, told, count):
        lead, ring = told
        self.assertEqual((type(told), type(lead), type(ring)), (tuple, list, list))
        self.assertEqual([event for event in lead + ring if event[0] == "again"], [])
        ahead, behind, twice = Run(town, lead), Run(town, lead + ring), Run(town, lead + ring + ring)
        self.assertEqual(ahead.state(), behind.state())
        self.assertEqual(behind.state(), twice.state())
        gained = count(behind) - count(ahead)
        self.assertGreater(gained, 0)
        self.assertEqual(count(twice) - count(behind), gained)

    def test_as_few_events_as_possible(self):
        self.check(Town.even(1, 3, 1), 2, 3)
        self.check(Town.even(1, 1, 1), 0, 0)
        self.check(Town.even(2, 3, 1), 5, 6)
        self.check(Town.even(2, 3, 0), 0, 0)
        self.check(Town.even(1, 0, 9), 0, 0)
        self.check(Town.even(1, 4, 2), 3, 4)
        self.check(Town.even(1, 3, 0).changed("tops", 1), 2, 4)
        self.check(deaf(9, money=0, memory=("times", 2)), 4, 3)
        self.check_loss(Town.even(1, 3, 1), 3, 4)
        self.check_loss(Town.even(2, 3, 1), 6, 7)
        self.check_loss(Town.even(2, 3, 0), 0, 0)
        self.check_loss(Town.even(1, 0, 1), 0, 0)
        self.check_loss(Town.even(1, 2, 0).changed("tops", 2), 2, 4)

    def test_by_name(self):
        self.assertEqual(worst_run(town=Town.even(1, 1, 1)), ([], []))
        self.assertEqual(loss_run(town=Town.even(1, 0, 1)), ([], []))

    def test_rings(self):
        for town in (deaf(1), deaf(9), deaf(2, money=2), deaf(1, tops=3), deaf(1, money=1, tops=1, numbered=False),
                     Town([Till("a", 2), Till("b", 1, heeds=False)], money=1),
                     Town([Till("a", 2), Till("b", 1, heeds=False)], links=[("a", "b")], tops=1)):
            self.check_ring(town, worst_run(town), lambda run: run.paid() - run.topped())
            self.check_ring(town, loss_run(town), lambda run: run.paid_after_loss())
            self.assertIn(("lose",), loss_run(town)[0])

    def test_the_lists_are_new(self):
        town = Town.even(1, 3, 1)
        worst_run(town)[0].clear()
        worst_run(town)[1].append(1)
        self.check(town, 2, 3)


if __name__ == "__main__":
    unittest.main()
