"""Tills: their parts, their order, and tills that are changed."""

import unittest

from cutofftills.errors import BadPart, TownError
from cutofftills.tills import Till
from cutofftills.towns import Town
from odd import any_values, odd_values


class Parts(unittest.TestCase):
    def check(self, part, *given, **named):
        with self.assertRaises(BadPart) as caught:
            Till(*given, **named)
        self.assertEqual(caught.exception.part, part)

    def test_attributes(self):
        till = Till("a", 3)
        self.assertEqual((till.name, till.limit, till.heeds), ("a", 3, True))
        self.assertIs(till.heeds, True)
        deaf = Till("abcdefgh", 0, heeds=False)
        self.assertEqual((deaf.name, deaf.limit, deaf.heeds), ("abcdefgh", 0, False))
        self.assertIs(deaf.heeds, False)

    def test_by_name(self):
        self.assertEqual(Till(limit=9, heeds=False, name="z"), Till("z", 9, heeds=False))
        self.assertEqual(Till("z", limit=9), Till("z", 9))

    def test_heeds_by_name_only(self):
        with self.assertRaises(TypeError):
            Till("a", 1, True)

    def test_names(self):
        for name in ["", "A", "abcdefghi", "a b", 1, True, None, ["a"], ("a",), b"a"]:
            self.check("name", name, 1)
        for value in odd_values():
            self.check("name", value, 1)

    def test_limits(self):
        for limit in range(10):
            self.assertEqual(Till("a", limit).limit, limit)
        for limit in [-1, 10, 100, True, False, None, "1", [1], (1,)]:
            self.check("limit", "a", limit)
        for value in odd_values():
            self.check("limit", "a", value)

    def test_heeds(self):
        for heeds in [0, 1, None, "True", "", [], (), (True,), 2]:
            self.check("heeds", "a", 1, heeds=heeds)
        for value in odd_values():
            self.check("heeds", "a", 1, heeds=value)

    def test_order_of_the_errors(self):
        self.check("name", "A", 10, heeds=1)
        self.check("name", "A", 1, heeds=1)
        self.check("name", "A", 10)
        self.check("limit", "a", 10, heeds=1)
        self.check("heeds", "a", 9, heeds=1)

    def test_errors_are_town_errors(self):
        with self.assertRaises(TownError):
            Till("a", 10)


class Comparisons(unittest.TestCase):
    def all_tills(self):
        return [Till(name, limit, heeds=heeds)
                for name in ("a", "b", "ab") for limit in (0, 1, 9) for heeds in (True, False)]

    def test_equal_if_the_parts_are(self):
        for at, one in enumerate(self.all_tills()):
            for place, other in enumerate(self.all_tills()):
                self.assertIs(one == other, at == place)
                self.assertIs(one != other, at != place)

    def test_other_classes_are_not_equal(self):
        till = Till("a", 1)
        for value in any_values() + ["a", ("a", 1, True), Town([till])]:
            self.assertIs(till == value, False)

    def test_not_above(self):
        for one in self.all_tills():
            for other in self.all_tills():
                holds = one.name == other.name and one.limit <= other.limit and not (other.heeds and not one.heeds)
                self.assertIs(one <= other, holds)

    def test_not_above_by_hand(self):
        self.assertIs(Till("a", 1) <= Till("a", 2), True)
        self.assertIs(Till("a", 2) <= Till("a", 1), False)
        self.assertIs(Till("a", 1) <= Till("b", 2), False)
        self.assertIs(Till("a", 1) <= Till("a", 1, heeds=False), True)
        self.assertIs(Till("a", 1, heeds=False) <= Till("a", 1), False)
        self.assertIs(Till("a", 1, heeds=False) <= Till("a", 1, heeds=False), True)

    def test_not_above_another_class(self):
        with self.assertRaises(TypeError):
            Till("a", 1) <= 1


class Changed(unittest.TestCase):
    def check(self, till, part, value, told):
        with self.assertRaises(BadPart) as caught:
            till.changed(part, value)
        self.assertIs(caught.exception.part, told)

    def test_another_limit(self):
        for heeds in (True, False):
            till = Till("a", 1, heeds=heeds)
            self.assertEqual(till.changed("limit", 9), Till("a", 9, heeds=heeds))
            self.assertEqual(till.changed("limit", 0), Till("a", 0, heeds=heeds))
            self.assertEqual(till, Till("a", 1, heeds=heeds))

    def test_another_heeds(self):
        till = Till("a", 4)
        deaf = till.changed("heeds", False)
        self.assertEqual(deaf, Till("a", 4, heeds=False))
        self.assertEqual(deaf.changed("heeds", True), till)
        self.assertEqual(till.changed("heeds", True), till)
        self.assertIs(till.heeds, True)

    def test_by_name(self):
        self.assertEqual(Till("a", 4).changed(value=5, part="limit"), Till("a", 5))

    def test_wrong_values(self):
        till = Till("a", 4)
        for value in [10, -1, True, False, None, "1", (1,)] + odd_values():
            with self.assertRaises(BadPart) as caught:
                till.changed("limit", value)
            self.assertEqual(caught.exception.part, "limit")
        for value in [0, 1, None, "", (True,)] + odd_values():
            with self.assertRaises(BadPart) as caught:
                till.changed("heeds", value)
            self.assertEqual(caught.exception.part, "heeds")
        self.assertEqual(till, Till("a", 4))

    def test_other_parts(self):
        for part in ["name", "Limit", "", "limits", 1, True, None] + any_values():
            self.check(Till("a", 4), part, 1, part)
            self.check(Till("a", 4), part, True, part)
            self.check(Till("a", 4), part, "b", part)


if __name__ == "__main__":
    unittest.main()
