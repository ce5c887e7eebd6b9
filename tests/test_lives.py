"""Lives: what is done and taken back in them."""

import random
import unittest

from cutofftills.errors import BadEvent, NothingToUndo
from cutofftills.events import events_of
from cutofftills.lives import Life
from cutofftills.runs import Run
from cutofftills.towns import Town
from odd import any_values
from plain import Plain, plain_choices, random_runs

CUT, LINE, AGAIN = ("cut", "a"), ("line", "a"), ("again", "a")
ONE, TWO = ("pay", "a", 1), ("pay", "a", 2)


class Lives(unittest.TestCase):
    def setUp(self):
        self.town = Town.even(2, 3, 2).changed("tops", 1).changed("numbered", False)
        self.life = Life(self.town)

    def test_at_the_beginning(self):
        self.assertEqual((self.life.town, self.life.events, len(self.life)), (self.town, (), 0))
        self.assertEqual(self.life.run(), Run(self.town, []))
        self.assertEqual(Life(town=self.town), self.life)

    def test_do(self):
        words = [self.life.do(event) for event in (CUT, TWO, TWO, ONE, ("top", 1), ("lose",), ("pay", "b", 1))]
        self.assertEqual(words, ["done", "taken", "limit", "taken", "done", "done", "house"])
        self.assertEqual(self.life.events, (CUT, TWO, TWO, ONE, ("top", 1), ("lose",), ("pay", "b", 1)))
        self.assertIs(type(self.life.events), tuple)
        self.assertEqual(len(self.life), 7)
        self.assertEqual(self.life.do(event=LINE), "done")
        self.assertEqual(self.life.do(AGAIN), "done")
        self.assertEqual(self.life.run(), Run(self.town, self.life.events))
        self.assertEqual(self.life.run().left(), -3)

    def test_do_raises_and_changes_nothing(self):
        self.life.do(CUT)
        for value in any_values() + [CUT, AGAIN, ["pay", "a", 1], ("top", 2), ("line", "b"), ("cut", "c")]:
            with self.assertRaises(BadEvent) as caught:
                self.life.do(value)
            self.assertIs(caught.exception.index, value)
            self.assertIs(self.life.can(value), False)
            self.assertEqual(self.life.events, (CUT,))
        self.assertEqual(self.life.do(TWO), "taken")
        self.life.undo()
        self.life.undo()
        with self.assertRaises(NothingToUndo):
            self.life.undo()

    def test_undo(self):
        for event in (CUT, TWO, LINE, AGAIN):
            self.life.do(event)
        self.assertIsNone(self.life.undo())
        self.assertEqual((self.life.events, self.life.run().left()), ((CUT, TWO, LINE), 0))
        self.assertIs(self.life.can(AGAIN), True)
        self.life.undo()
        self.assertEqual(self.life.events, (CUT, TWO))
        self.assertIs(self.life.can(AGAIN), False)
        self.assertIs(self.life.can(LINE), True)
        self.life.undo()
        self.assertEqual(self.life.do(ONE), "taken")
        self.assertEqual(self.life.run().untold(), {"a": 1, "b": 0})

    def test_nothing_to_undo(self):
        with self.assertRaises(NothingToUndo) as caught:
            self.life.undo()
        self.assertEqual(caught.exception.name, "undo")
        self.life.do(CUT)
        self.life.undo()
        with self.assertRaises(NothingToUndo):
            self.life.undo()
        self.assertEqual((self.life.events, self.life.do(CUT)), ((), "done"))

    def test_can_and_choices(self):
        self.assertEqual(self.life.choices(), [
            ("cut", "a"), ("cut", "b"), ("pay", "a", 1), ("pay", "a", 2), ("pay", "b", 1), ("pay", "b", 2),
            ("top", 1), ("lose",)])
        for event in (CUT, TWO, LINE, ("lose",)):
            self.life.do(event)
        self.assertEqual(self.life.choices(), [
            ("cut", "a"), ("cut", "b"), ("pay", "a", 1), ("pay", "a", 2), ("pay", "b", 1), ("pay", "b", 2),
            ("again", "a")])
        for event in events_of(self.town):
            self.assertIs(self.life.can(event), event in self.life.choices())
        self.assertIs(self.life.can(event=AGAIN), True)

    def test_choices_in_a_numbered_town(self):
        life = Life(self.town.changed("numbered", True))
        for event in (CUT, TWO, LINE):
            life.do(event)
        self.assertEqual(life.choices()[-1], AGAIN)

    def test_the_list_is_new(self):
        self.life.choices().clear()
        self.assertEqual(len(self.life.choices()), 8)

    def test_an_earlier_run_stays_as_it_is(self):
        run = self.life.run()
        self.life.do(CUT)
        self.assertEqual((len(run), run.events), (0, ()))

    def test_equal_if_towns_and_events_are(self):
        other = Life(Town.even(2, 3, 2).changed("tops", 1).changed("numbered", False))
        self.assertIs(self.life == other, True)
        self.life.do(CUT)
        self.assertIs(self.life == other, False)
        self.assertIs(self.life != other, True)
        other.do(("cut", "b"))
        self.assertIs(self.life == other, False)
        other.undo()
        other.do(CUT)
        self.assertIs(self.life == other, True)
        self.assertIs(Life(self.town) == Life(self.town.changed("tops", 0)), False)

    def test_other_classes_are_not_equal(self):
        for value in any_values() + [self.town, (), [], self.life.run()]:
            self.assertIs(self.life == value, False)

    def test_copy(self):
        for event in (CUT, TWO, LINE):
            self.life.do(event)
        other = self.life.copy()
        self.assertIsInstance(other, Life)
        self.assertEqual(other, self.life)
        self.assertIs(other.can(AGAIN), True)
        other.do(AGAIN)
        self.assertEqual((len(other), len(self.life), self.life.run().left()), (4, 3, 0))
        self.life.undo()
        self.life.do(ONE)
        self.assertEqual(other.events, (CUT, TWO, LINE, AGAIN))
        for _ in range(4):
            other.undo()
        self.assertEqual((other.events, self.life.events), ((), (CUT, TWO, ONE)))

    def test_night(self):
        life = Life(Town.even(4, 3, 2).with_links([("a", "c")]))
        self.assertEqual(life.night(), [])
        self.assertEqual(life.events, ())
        for event in (("cut", "d"), ("pay", "d", 2), ("cut", "a"), ("cut", "c"), ONE):
            life.do(event)
        told = life.night()
        self.assertEqual(told, [("line", "a"), ("line", "c"), ("line", "d")])
        self.assertEqual(life.events[5:], (("line", "a"), ("line", "c"), ("line", "d")))
        self.assertEqual((len(life), life.run().left(), life.run().state()[0]), (8, -1, (True,) * 4))
        told.clear()
        self.assertEqual(life.night(), [])
        self.assertEqual(len(life), 8)
        life.undo()
        self.assertEqual(life.run().untold(), {"a": 0, "b": 0, "c": 0, "d": 2})
        self.assertEqual(life.night(), [("line", "d")])

    def test_random_lives(self):
        chance = random.Random(8)
        for town, events in random_runs(6, 120, 25):
            life = Life(town)
            done = []
            for event in events:
                plain = Plain(town)
                for earlier in done:
                    plain.do(earlier)
                self.assertEqual(life.choices(), plain_choices(plain, agains=True))
                if plain.can(event):
                    self.assertEqual(life.do(event), plain.do(event))
                    done.append(event)
                if done and chance.random() < 0.3:
                    life.undo()
                    done.pop()
                self.assertEqual(life.events, tuple(done))
                self.assertEqual(life.run().words(), Run(town, done).words())
            self.assertEqual(life.copy(), life)


if __name__ == "__main__":
    unittest.main()
