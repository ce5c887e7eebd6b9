"""Honest payments: those that can be refused, and those that can be taken twice."""

import unittest

from cutofftills.errors import TooMany
from cutofftills.honest import refusals_of, refused_run, taken_twice
from cutofftills.runs import Run, wrong_refusals
from cutofftills.tills import Till
from cutofftills.towns import Town
from test_graphs import LARGE


class Refused(unittest.TestCase):
    def check(self, town, fewest, words):
        events = refused_run(town)
        self.assertIs(type(events), list)
        run = Run(town, events)
        self.assertEqual(len(events), fewest)
        self.assertEqual(events[-1][0], "pay")
        self.assertIs(run.is_honest(), True)
        self.assertEqual(wrong_refusals(run), [fewest - 1])
        self.assertEqual([event for event in events if event[0] in ("again", "lose")], [])
        self.assertIn(run.words()[-1], words)
        self.assertEqual(refusals_of(town), words)

    def test_the_limit(self):
        self.check(Town.even(1, 0, 1), 2, ["limit"])
        self.check(Town.even(1, 1, 2), 2, ["limit"])
        self.check(Town.even(1, 2, 3), 3, ["limit"])
        self.check(Town.even(2, 2, 3), 3, ["limit"])
        self.check(Town.even(1, 0, 0).changed("tops", 1), 3, ["limit", "list"])

    def test_the_list(self):
        self.check(Town.even(1, 2, 0).changed("tops", 1), 3, ["list"])
        self.check(Town.even(1, 9, 1).changed("tops", 1), 4, ["list"])
        self.check(Town.even(2, 9, 2).changed("tops", 2), 4, ["list"])

    def test_the_memory(self):
        self.check(Town.even(1, 9, 1).changed("memory", ("sum", 0)), 2, ["memory"])
        self.check(Town.even(1, 9, 3).changed("memory", ("times", 1)), 3, ["memory"])
        self.check(Town.even(1, 9, 4).changed("memory", ("sum", 3)), 3, ["memory"])

    def test_several_words(self):
        town = Town([Till("a", 2), Till("b", 1)], money=1, memory=("sum", 1), tops=1)
        self.check(town, 3, ["limit", "list", "memory"])

    def test_none(self):
        for town in (Town.even(1, 9, 9), Town.even(4, 9, 0), Town.even(1, 2, 2), Town.even(2, 9, 3),
                     Town([Till("a", 5, heeds=False)], money=1, tops=4),
                     Town.even(1, 3, 3).changed("memory", ("sum", 3)),
                     Town.even(1, 3, 3).changed("memory", ("times", 3))):
            self.assertIsNone(refused_run(town))
            self.assertEqual(refusals_of(town), [])

    def test_deaf_tills(self):
        self.check(Town([Till("a", 5, heeds=False)], money=1, tops=5), 7, ["limit"])

    def test_unnumbered_towns_are_looked_at_without_agains(self):
        self.assertIsNone(refused_run(Town.even(1, 9, 9).changed("numbered", False)))
        self.assertEqual(refusals_of(Town.even(1, 9, 9).changed("numbered", False)), [])

    def test_by_name(self):
        self.assertIsNone(refused_run(town=Town.even(1, 9, 9)))
        self.assertEqual(refusals_of(town=Town.even(1, 0, 9)), ["limit"])

    def test_too_many(self):
        town = Town([Till(name, 9, heeds=False) for name in "abcd"], money=4, tops=5)
        for call in (refused_run, refusals_of):
            with self.assertRaises(TooMany) as caught:
                call(town)
            self.assertEqual(caught.exception.limit, 20000)

    def test_the_lists_are_new(self):
        town = Town.even(1, 0, 1)
        refused_run(town).clear()
        refusals_of(town).clear()
        self.check(town, 2, ["limit"])


class Twice(unittest.TestCase):
    def check(self, town, fewest):
        events = taken_twice(town)
        self.assertIs(type(events), list)
        self.assertEqual(len(events), fewest)
        self.assertEqual([event[0] for event in events].index("again"), fewest - 1)
        self.assertIs(Run(town, events[:-1]).is_wronged(), False)
        self.assertIs(Run(town, events).is_wronged(), True)

    def test_unnumbered_towns(self):
        self.check(Town.even(1, 1, 1).changed("numbered", False), 4)
        self.check(Town.even(1, 9, 0).changed("numbered", False).changed("tops", 1), 5)
        self.check(Town([Till("a", 1, heeds=False)], numbered=False), 4)
        self.check(Town([Till("b", 0), Till("a", 1)], money=1, numbered=False), 4)
        self.check(LARGE.changed("numbered", False), 4)

    def test_none(self):
        for town in (Town.even(1, 1, 1), LARGE, Town([Till("a", 1, heeds=False)]),
                     Town.even(4, 0, 9).changed("numbered", False).changed("tops", 5),
                     Town.even(1, 9, 0).changed("numbered", False),
                     Town.even(2, 9, 9).changed("numbered", False).changed("memory", ("sum", 0)),
                     Town.even(2, 9, 9).changed("numbered", False).changed("memory", ("times", 0))):
            self.assertIsNone(taken_twice(town))

    def test_by_name(self):
        self.assertIsNone(taken_twice(town=Town.even(1, 9, 9)))

    def test_the_list_is_new(self):
        town = Town.even(1, 1, 1).changed("numbered", False)
        taken_twice(town).clear()
        self.check(town, 4)


if __name__ == "__main__":
    unittest.main()
