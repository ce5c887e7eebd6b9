"""Towns and events as texts, written and read."""

import re
import unittest

from cutofftills.errors import BadLink, BadPart, BadText, BadTill, TooMany
from cutofftills.events import events_of
from cutofftills.texts import read_events, read_town, write_events, write_town
from cutofftills.tills import Till
from cutofftills.towns import Town
from odd import any_values, odd_values
from plain import random_runs, small_towns
from test_limits import Raising

TOWN = Town([Till("b", 0), Till("a", 9, heeds=False), Till("abcdefgh", 3)], links=[("abcdefgh", "b"), ("a", "b")],
            money=4, memory=("sum", 5), tops=2, numbered=False)
ROWS = ["till b 0", "till a 9 deaf", "till abcdefgh 3", "link a b", "link abcdefgh b", "money 4", "memory sum 5",
        "tops 2", "unnumbered"]
EVENTS = [("cut", "a"), ("line", "abcdefgh"), ("pay", "z", 1), ("pay", "a", 2), ("top", 1), ("top", 2), ("lose",),
          ("again", "q")]
TEXT = "cut a; line abcdefgh; pay z 1; pay a 2; top 1; top 2; lose; again q"
FORMS = {"till": "till [a-z]{1,8} [0-9]( deaf)?", "link": "link [a-z]{1,8} [a-z]{1,8}", "money": "money [0-9]",
         "memory": "memory (nothing|times [0-9]|sum [0-9])", "tops": "tops [0-9]", "unnumbered": "unnumbered"}
WRONG_WORDS = ["", " ", "a", "A", "till", "10", "-1", "1.0", "x"]


class Written(Raising):
    def test_the_example_of_the_document(self):
        self.assertEqual(write_town(Town.even(1, 2, 3)), 'till a 2\nmoney 3\nmemory nothing\ntops 0')

    def test_towns(self):
        self.assertEqual(write_town(town=TOWN), "\n".join(ROWS))
        self.assertEqual(write_town(TOWN.changed("numbered", True)), "\n".join(ROWS[:-1]))
        self.assertEqual(write_town(TOWN.changed("memory", ("times", 0))).split("\n")[6], "memory times 0")

    def test_events(self):
        self.assertEqual(write_events(EVENTS), TEXT)
        self.assertEqual(write_events(events=tuple(EVENTS)), TEXT)
        self.assertEqual(write_events([]), "")
        self.assertEqual(write_events([("lose",)]), "lose")


class ReadTowns(Raising):
    def check(self, rows, index):
        self.assert_raises(BadText, "index", index, lambda: read_town("\n".join(rows)))

    def test_what_was_written(self):
        self.assertEqual(read_town(text="\n".join(ROWS)), TOWN)
        for town in small_towns()[::5] + [TOWN, Town.even(4, 9, 9).changed("tops", 5)]:
            self.assertEqual(read_town(write_town(town)), town)
            self.assertEqual(write_town(read_town(write_town(town))), write_town(town))

    def test_links_in_any_order(self):
        self.assertEqual(read_town("\n".join(ROWS[:3] + [ROWS[4], ROWS[3]] + ROWS[5:])), TOWN)

    def test_no_strings(self):
        for value in [b"till a 1", ROWS, 0, None, True] + any_values():
            if not isinstance(value, str):
                self.assert_raises(BadText, "index", None, lambda: read_town(value))
            else:
                self.check([value], 0)

    def test_lacking_rows(self):
        for at in range(8):
            self.check(ROWS[:at], at)
        self.check([], 0)
        for at, index in ((5, 5), (6, 6), (7, 7)):
            self.check(ROWS[:at] + ROWS[at + 1:], index)
        self.check(ROWS[3:], 0)
        self.assertEqual(read_town("\n".join(ROWS[:3] + ROWS[5:])), TOWN.with_links([]))

    def test_rows_twice_or_in_another_order(self):
        for at in range(5, 9):
            self.check(ROWS[:at] + ROWS[at:at + 1] + ROWS[at:], at + 1)
        self.check(ROWS[:3] + ["link a b", "till c 1"] + ROWS[5:], 4)
        self.check(["link a b"] + ROWS, 0)
        self.check(ROWS[:6] + ["link a b"] + ROWS[6:], 6)
        self.check(ROWS[:5] + [ROWS[6], ROWS[5]] + ROWS[7:], 5)
        self.check(ROWS[:7] + [ROWS[8], ROWS[7]], 7)
        self.check(ROWS + [""], 9)
        self.check(ROWS[:8] + [""], 8)
        self.check([""] + ROWS, 0)
        self.check(ROWS[:3] + [""] + ROWS[3:], 3)
        self.check(ROWS[:8] + ["numbered"], 8)

    def test_wrong_rows(self):
        for at, row in enumerate(ROWS):
            words = row.split(" ")
            bent = [row + " ", " " + row, row.replace(" ", "  "), row.upper(), row + "\r", row + " 1", row + " deaf deaf",
                    row.replace(" ", "\t"), row + ";", "x" + row]
            bent += [" ".join(words[:k] + [word] + words[k + 1:]) for k in range(len(words)) for word in WRONG_WORDS]
            bent += [" ".join(words[:k] + words[k + 1:]) for k in range(len(words))]
            for other in bent:
                if not re.fullmatch(FORMS[words[0]], other):
                    self.check(ROWS[:at] + [other] + ROWS[at + 1:], at)

    def test_numbers_of_several_figures(self):
        for row in ("money 10", "money 04", "money +4", "money 4.", "money \u0664", "money"):
            self.check(ROWS[:5] + [row] + ROWS[6:], 5)
        for row in ("memory", "memory sum", "memory nothing 0", "memory sum 10", "memory sums 1", "memory times 1 1",
                    "memory times", "memory 1", "memory nothings"):
            self.check(ROWS[:6] + [row] + ROWS[7:], 6)
        for row in ("till a 10 deaf", "till a deaf", "till a 1 deafs", "till abcdefghi 1", "till A 1", "till a 1 heeds"):
            self.check(ROWS[:1] + [row] + ROWS[2:], 1)

    def test_then_as_town(self):
        self.assert_raises(BadTill, "index", 1, lambda: read_town("\n".join(["till b 1"] + ROWS)))
        self.assert_raises(TooMany, "limit", 4, lambda: read_town("\n".join(["till x 1", "till y 1"] + ROWS)))
        self.assert_raises(BadLink, "index", 0, lambda: read_town("\n".join(ROWS[:3] + ["link b a"] + ROWS[5:])))
        self.assert_raises(BadLink, "index", 1, lambda: read_town("\n".join(ROWS[:4] + ["link a c"] + ROWS[5:])))
        self.assert_raises(BadLink, "index", 1, lambda: read_town("\n".join(ROWS[:4] + ["link a b"] + ROWS[5:])))
        self.assert_raises(BadPart, "part", "tops", lambda: read_town("\n".join(ROWS[:7] + ["tops 6"])))
        # The form of all rows is looked at first.
        self.check(["till b 1"] + ROWS[:8] + ["x"], 9)


class ReadEvents(Raising):
    def check(self, text, index):
        self.assert_raises(BadText, "index", index, lambda: read_events(text))

    def test_what_was_written(self):
        self.assertEqual(read_events(text=TEXT), EVENTS)
        self.assertEqual(read_events(""), [])
        self.assertIs(type(read_events("")), list)
        self.assertEqual({type(event) for event in read_events(TEXT)}, {tuple})
        for town, events in random_runs(4, 60, 20):
            self.assertEqual(read_events(write_events(events)), events)
            self.assertEqual(read_events(write_events(events_of(town))), events_of(town))

    def test_no_strings(self):
        for value in odd_values() + [b"lose", EVENTS, 0, True, None]:
            self.check(value, None)

    def test_wrong_forms(self):
        for part in ["", " ", "cut", "cut a b", "cut A", "cut a1", "cut  a", " cut a", "cut a ", "line", "again",
                     "again a 1", "pay a", "pay 1", "pay a 10", "pay a -1", "pay a x", "pay A 1", "pay a 1 1", "pay  a 1",
                     "top", "top a", "top 10", "top 1 1", "top a 1", "lose a", "lose 1", "Lose", "losee", "LOSE", "done",
                     "cut abcdefghi", "cut a,", "cut a\n", "pay a \u0661", "top \u00b2", "1", "a", "cut a;lose",
                     "('lose',)", "cut\ta", "day a"]:
            for at in range(3):
                self.check("; ".join(["lose"] * at + [part, "pay", "top 1"]), at)
                if part or at:
                    self.check("; ".join(["cut a", "again b"][:at] + [part]), at)

    def test_separators(self):
        for text in (";", "; ", " ;", "lose;", ";lose", "lose;lose", "lose;  lose"):
            self.assertRaises(BadText, read_events, text)
        self.check("lose; ", 1)
        self.check("; lose", 0)
        self.check("lose; ; lose", 1)
        self.check("lose;lose", 0)
        self.check("lose ; lose", 0)
        self.check("lose;  lose", 1)
        self.check("lose\nlose", 0)

    def test_one_figure(self):
        # The form asks for one figure alone; what can be paid or topped up is asked by those who get the events.
        self.assertEqual(read_events("pay a 0; top 9"), [("pay", "a", 0), ("top", 9)])

    def test_the_lists_are_new(self):
        read_events(TEXT).clear()
        self.assertEqual(read_events(TEXT), EVENTS)


if __name__ == "__main__":
    unittest.main()
