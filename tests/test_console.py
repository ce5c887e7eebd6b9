"""The lines of a console."""

import unittest

from cutofftills.console import Console
from cutofftills.errors import (
    BadEvent, BadLine, BadLink, BadPart, BadText, BadTown, NothingToUndo, UnknownTill)
from cutofftills.sessions import Session
from cutofftills.texts import write_town
from cutofftills.tills import Till
from cutofftills.towns import Town
from odd import any_values
from test_graphs import LARGE
from test_limits import Raising

TOWN = Town([Till("a", 3), Till("b", 2, heeds=False)], money=1, memory=("sum", 4), tops=1)


class Lines(Raising):
    def setUp(self):
        self.console = Console(TOWN)

    def answers(self, *lines):
        return [self.console.answer(line) for line in lines]

    def check(self, town, many):
        self.assertEqual((self.console.session.current(), len(self.console.session)), (town, many))

    def test_the_example_of_the_document(self):
        self.console = Console(Town.even(1, 2, 1))
        self.assertEqual(self.answers("words cut a; pay a 2; pay a 1", "most", "keeps 0"),
                         ["done taken limit", "1", "no"])

    def test_made_from_a_town(self):
        self.assertIsInstance(self.console.session, Session)
        self.check(TOWN, 0)
        self.assertEqual(Console(town=TOWN).answer(line="town"), write_town(TOWN))
        for value in any_values() + [Session(TOWN), Till("a", 1)]:
            self.assert_raises(BadTown, "town", value, lambda: Console(value))

    def test_town(self):
        self.assertEqual(self.answers("town", "link b a", "money 0", "town"), [
            "till a 3\ntill b 2 deaf\nmoney 1\nmemory sum 4\ntops 1", "ok", "ok",
            "till a 3\ntill b 2 deaf\nlink a b\nmoney 0\nmemory sum 4\ntops 1"])

    def test_most_and_keeps(self):
        self.console = Console(Town([Till("a", 3), Till("b", 9)], money=1))
        self.assertEqual(self.answers("most", "keeps 11", "keeps 10", "keeps 99", "keeps 9", "keeps 0"),
                         ["11", "yes", "no", "yes", "no", "no"])
        self.assertEqual(self.answers("till b 9 deaf", "most", "keeps 99", "keeps 0"), ["ok", "none", "no", "no"])
        self.assertEqual(self.answers("till b 0", "most", "keeps 3", "keeps 2"), ["ok", "3", "yes", "no"])
        self.assertEqual(self.answers("money 0", "most", "keeps 0"), ["ok", "0", "yes"])

    def test_words(self):
        self.assertEqual(self.answers("words", "words ", "words lose", "words pay b 2", "words top 1; pay b 2"),
                         ["-", "-", "done", "house", "done taken"])
        self.assertEqual(self.answers("words cut a; pay a 2; pay a 2; cut b; pay b 2; pay b 1; line b; pay b 1; lose"),
                         ["done taken limit done taken limit done house done"])
        self.assertEqual(self.answers("words cut a; pay a 1; line a; again a"), ["done taken done done"])
        self.check(TOWN, 0)

    def test_words_raise(self):
        for text, index in [("pay a", 0), ("cut a;pay a 1", 0), ("cut a; ", 1), (" cut a", 0), ("cut a ", 0),
                            ("cut a; pay a 10", 1), ("x", 0), ("cut A", 0)]:
            self.assert_raises(BadText, "index", index, lambda: self.console.answer("words " + text))
        for text, index in [("cut c", 0), ("cut a; cut a", 1), ("pay a 3", 0), ("top 1; top 1", 1), ("line a", 0),
                            ("cut a; again a", 1), ("lose; lose", 1)]:
            self.assert_raises(BadEvent, "index", index, lambda: self.console.answer("words " + text))
        self.check(TOWN, 0)

    def test_changes(self):
        self.assertEqual(self.answers("till a 9", "till b 0", "link a b", "money 9", "tops 5"), ["ok"] * 5)
        town = Town([Till("a", 9), Till("b", 0)], links=[("a", "b")], money=9, memory=("sum", 4), tops=5)
        self.check(town, 5)
        self.assertEqual(self.answers("unlink b a", "till a 0 deaf"), ["ok"] * 2)
        self.check(town.with_links([]).with_till(Till("a", 0, heeds=False)), 7)
        self.assertEqual(self.answers("undo", "undo"), ["ok"] * 2)
        self.check(town, 5)
        self.assertEqual(self.answers(*["undo"] * 5), ["ok"] * 5)
        self.check(TOWN, 0)
        self.assert_raises(NothingToUndo, "name", "undo", lambda: self.console.answer("undo"))

    def test_other_errors(self):
        self.assertEqual(self.answers("money 2"), ["ok"])
        for error, attribute, value, line in [
                (UnknownTill, "name", "c", "till c 1"), (BadLink, "index", None, "link a a"),
                (BadLink, "index", None, "link a c"), (BadLink, "index", None, "unlink a b"),
                (BadLink, "index", None, "unlink a a"), (BadPart, "part", "tops", "tops 6"),
                (BadPart, "part", "tops", "tops 9")]:
            self.assert_raises(error, attribute, value, lambda: self.console.answer(line))
        self.answers("link a b")
        self.assert_raises(BadLink, "index", None, lambda: self.console.answer("link b a"))
        self.check(TOWN.changed("money", 2).with_links([("a", "b")]), 2)

    def test_too_many(self):
        console = Console(LARGE)
        self.assert_too_many(lambda: console.answer("most"))
        self.assert_too_many(lambda: console.answer("keeps 9"))
        self.assertEqual(console.answer("till a 0"), "ok")

    def test_bad_lines(self):
        for line in ["", " ", "Town", "town ", " town", "towns", "town town", "most 1", "mosts", "keeps", "keeps ",
                     "keeps 00", "keeps 01", "keeps 100", "keeps -1", "keeps a", "keeps 1 1", "keeps  1", "keeps 1 ",
                     "keeps 1a", "keeps a1",
                     "keep 1", "wordss", "word", "wordscut a", "Words", " words", "till", "till a", "till a 10",
                     "till a -1", "till a x", "till a 1 Deaf", "till a 1 deaf deaf", "till  a 1", "till A 1",
                     "till abcdefghi 1", "till a 1 ", "till a 1\n", "till a 01", "link", "link a", "link a b c",
                     "link a B", "link  a b", "link a b ", "unlink", "unlink a", "unlink a B", "unlink a b c",
                     "unlink A b", "unlinks a b", "money", "money 10", "money a", "money 1 1", "money -1", "money 01",
                     "tops", "tops 10", "tops x", "undo ", "undo 1", "undos", "memory nothing", "memory sum 1",
                     "unnumbered", "most\n", "town\nmost", "keeps \u0661", "money \u00b2", "till a \u0661"]:
            self.assert_raises(BadLine, "line", line, lambda: self.console.answer(line))
        for value in [value for value in any_values() if not isinstance(value, str)] + [["town"], b"town"]:
            self.assert_raises(BadLine, "line", value, lambda: self.console.answer(value))
        self.check(TOWN, 0)

    def test_the_session_can_be_used_beside_it(self):
        with self.console.session.trial() as session:
            session.assign("memory", ("nothing",))
            self.assertEqual(self.answers("most", "money 0"), ["none", "ok"])
        self.check(TOWN, 0)
        self.console.session.assign("numbered", False)
        self.assertEqual(self.answers("undo"), ["ok"])
        self.check(TOWN, 0)


if __name__ == "__main__":
    unittest.main()
