"""What a card must remember for a wish."""

import unittest

from cutofftills.errors import BadKind, BadWish
from cutofftills.remembering import greatest_memory, memories_keeping
from cutofftills.tills import Till
from cutofftills.towns import Town
from cutofftills.worst import most_overspent
from odd import any_values
from plain import small_towns
from test_graphs import LARGE
from test_limits import NO_WISHES, Raising
from test_worst import deaf

MEMORIES = [("nothing",)] + [(kind, most) for kind in ("times", "sum") for most in range(10)]


def all_kept(town, wish):
    """The memories with which a town keeps a wish, by trying all of them."""
    mosts = [most_overspent(town.changed("memory", memory)) for memory in MEMORIES]
    return [memory for memory, most in zip(MEMORIES, mosts) if most is not None and most <= wish]


class Memories(Raising):
    def test_by_hand(self):
        town = Town.even(2, 3, 1)
        self.assertEqual([most_overspent(town.changed("memory", ("sum", n))) for n in range(7)], [0, 2, 3, 3, 3, 4, 5])
        self.assertEqual([greatest_memory(town, "sum", wish) for wish in range(6)], [0, 0, 1, 4, 5, 9])
        self.assertEqual([most_overspent(town.changed("memory", ("times", n))) for n in range(5)], [0, 3, 3, 4, 5])
        self.assertEqual([greatest_memory(town, "times", wish) for wish in range(6)], [0, 0, 0, 2, 3, 9])
        self.assertEqual(memories_keeping(town, 5), MEMORIES)
        self.assertEqual(memories_keeping(town, 2), [("times", 0), ("sum", 0), ("sum", 1)])
        self.assertEqual(memories_keeping(town, 0), [("times", 0), ("sum", 0)])

    def test_no_bound_without_a_memory(self):
        town = deaf(3, money=1)
        self.assertEqual(greatest_memory(town, "sum", 4), 4)
        self.assertEqual(greatest_memory(town, "times", 99), 9)
        self.assertEqual(memories_keeping(town, 99), MEMORIES[1:])

    def test_all_memories_tried(self):
        for town in small_towns()[5:324:40] + small_towns()[324:444:12]:
            for wish in (0, 1, 2, 4):
                kept = all_kept(town, wish)
                self.assertEqual(memories_keeping(town, wish), kept)
                for kind in ("times", "sum"):
                    most = max([memory[1] for memory in kept if memory[0] == kind], default=None)
                    self.assertEqual(greatest_memory(town, kind, wish), most)

    def test_what_remembers_least_keeps_every_wish(self):
        for town in (Town.even(1, 9, 1), deaf(9), Town([Till("a", 9, heeds=False), Till("b", 9)], money=9, tops=5)):
            self.assertEqual(greatest_memory(town, "times", 0), 0)
        self.assertEqual(greatest_memory(Town.even(1, 9, 1), "sum", 0), 1)
        self.assertEqual(greatest_memory(deaf(9), "sum", 0), 0)

    def test_the_memory_of_the_town_does_not_matter(self):
        town = Town.even(2, 3, 1)
        for memory in MEMORIES[::4]:
            self.assertEqual(memories_keeping(town.changed("memory", memory), 3), memories_keeping(town, 3))
            self.assertEqual(greatest_memory(town.changed("memory", memory), "sum", 3), 4)

    def test_by_name(self):
        self.assertEqual(greatest_memory(wish=3, kind="sum", town=Town.even(2, 3, 1)), 4)
        self.assertEqual(memories_keeping(wish=5, town=Town.even(2, 3, 1)), MEMORIES)

    def test_order_of_the_errors(self):
        for kind in ["nothing", "Sum", "time", "sums", "", ("sum",), ["sum"], b"sum"] + any_values():
            self.assert_raises(BadKind, "kind", kind, lambda: greatest_memory(LARGE, kind, None))
        for wish in NO_WISHES:
            self.assert_raises(BadWish, "wish", wish, lambda: greatest_memory(LARGE, "sum", wish))
            self.assert_raises(BadWish, "wish", wish, lambda: memories_keeping(LARGE, wish))

    def test_too_many(self):
        for call in (lambda: greatest_memory(LARGE, "times", 99), lambda: memories_keeping(LARGE, 99)):
            self.assert_too_many(call)

    def test_the_list_is_new(self):
        town = Town.even(1, 1, 1)
        memories_keeping(town, 99).clear()
        self.assertEqual(memories_keeping(town, 99), MEMORIES)


if __name__ == "__main__":
    unittest.main()
