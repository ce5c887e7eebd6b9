"""Names and memories, over any values."""

import unittest

from cutofftills.words import is_memory, is_name
from odd import any_values, odd_values

NAMES = ["a", "z", "m", "ab", "zz", "abcdefgh", "zzzzzzzz", "till", "pay", "nothing"]
NO_NAMES = ["", "A", "Z", "aB", "abcdefghi", "a b", " a", "a ", "a1", "1", "a-b", "a_b", "_", "`", "{", "a\n", "\n",
            "\u00e9", "\u0430", "\u00aa", "a\u0301", "\uff41", "a" * 9, "a" * 100]


class Names(unittest.TestCase):
    def test_one_to_eight_letters(self):
        for name in NAMES:
            self.assertIs(is_name(name), True, name)
        for count in range(12):
            self.assertIs(is_name("q" * count), 1 <= count <= 8)

    def test_each_letter_and_no_other_sign(self):
        letters = "abcdefghijklmnopqrstuvwxyz"
        for code in range(400):
            self.assertIs(is_name(chr(code)), chr(code) in letters, code)
            self.assertIs(is_name("a" + chr(code) + "b"), chr(code) in letters, code)

    def test_other_strings(self):
        for name in NO_NAMES:
            self.assertIs(is_name(name), False, name)

    def test_other_values(self):
        for value in any_values():
            if not isinstance(value, str):
                self.assertIs(is_name(value), False)
        for value in [["a"], ("a",), b"a", {"a": 1}, True, 1, None]:
            self.assertIs(is_name(value), False)

    def test_by_name(self):
        self.assertIs(is_name(value="a"), True)


class Memories(unittest.TestCase):
    def test_nothing(self):
        self.assertIs(is_memory(("nothing",)), True)
        for value in [("nothing", 0), ("nothing", None), ("nothing", ()), "nothing", ["nothing"], ("Nothing",),
                      ("times",), ("sum",), ("",), (), ("nothing", "nothing")]:
            self.assertIs(is_memory(value), False, value)

    def test_times_and_sum_from_nought_to_nine(self):
        for kind in ("times", "sum"):
            for most in range(-3, 14):
                self.assertIs(is_memory((kind, most)), 0 <= most <= 9)
                self.assertIs(is_memory([kind, most]), False)

    def test_truths_are_no_integers(self):
        for kind in ("times", "sum"):
            for most in (True, False, None, "1", (1,), [1], b"1"):
                self.assertIs(is_memory((kind, most)), False)

    def test_other_forms(self):
        for value in [("times", 1, 1), ("sum", 1, None), (1, "sum"), ("time", 1), ("sums", 1), (("times", 1),),
                      ("times", 1, ""), "times", {"times": 1}, ("nothing", "times", 1), (b"nothing",), (b"sum", 1),
                      ("TIMES", 1), ("sum ", 1)]:
            self.assertIs(is_memory(value), False, value)

    def test_any_values(self):
        for value in any_values():
            self.assertIs(is_memory(value), False)
        for value in odd_values():
            self.assertIs(is_memory(("times", value)), False)
            self.assertIs(is_memory(("sum", value)), False)
            self.assertIs(is_memory((value, 1)), False)
            self.assertIs(is_memory(("nothing", value)), False)

    def test_by_name(self):
        self.assertIs(is_memory(value=("sum", 9)), True)


if __name__ == "__main__":
    unittest.main()
