"""Sessions: changes, undo, attempts and trials."""

import random
import unittest

from cutofftills.errors import BadLink, BadPart, BadTill, BadTown, NothingToUndo, UnknownTill
from cutofftills.sessions import Session
from cutofftills.tills import Till
from cutofftills.towns import Town
from odd import any_values, odd_values
from test_limits import Raising

TOWN = Town([Till("b", 3), Till("a", 2), Till("c", 0, heeds=False)], links=[("a", "c")], money=1)


class Stopped(Exception):
    """An error of a visitor."""


class Changes(Raising):
    def setUp(self):
        self.session = Session(TOWN)

    def check(self, town, many):
        self.assertEqual(self.session.current(), town)
        self.assertEqual(len(self.session), many)

    def test_at_the_beginning(self):
        self.check(TOWN, 0)
        self.assertEqual(Session(town=TOWN).current(), TOWN)

    def test_wrong_towns(self):
        for value in any_values() + [Town, Till("a", 1), Session(TOWN)]:
            self.assert_raises(BadTown, "town", value, lambda: Session(value))

    def test_put(self):
        self.assertIsNone(self.session.put(Till("a", 9, heeds=False)))
        self.check(TOWN.with_till(Till("a", 9, heeds=False)), 1)
        self.session.put(till=Till("b", 0))
        self.check(TOWN.with_till(Till("a", 9, heeds=False)).with_till(Till("b", 0)), 2)

    def test_put_raises(self):
        self.session.put(Till("a", 5))
        for value in any_values() + ["a", TOWN]:
            self.assert_raises(BadTill, "index", value, lambda: self.session.put(value))
        self.assert_raises(UnknownTill, "name", "d", lambda: self.session.put(Till("d", 1)))
        self.check(TOWN.with_till(Till("a", 5)), 1)

    def test_assign(self):
        self.assertIsNone(self.session.assign("money", 7))
        self.session.assign(part="memory", value=("sum", 2))
        self.session.assign("tops", 5)
        self.session.assign("numbered", False)
        self.check(TOWN.changed("money", 7).changed("memory", ("sum", 2)).changed("tops", 5)
                   .changed("numbered", False), 4)

    def test_assign_raises(self):
        for part, value in [("money", 10), ("money", True), ("tops", 6), ("memory", ["nothing"]), ("numbered", 1),
                            ("links", []), ("tills", []), ("Money", 1), ("", 1)]:
            self.assert_raises(BadPart, "part", part, lambda: self.session.assign(part, value))
        for value in any_values():
            self.assert_raises(BadPart, "part", value, lambda: self.session.assign(value, 1))
        for value in odd_values():
            self.assert_raises(BadPart, "part", "money", lambda: self.session.assign("money", value))
        self.check(TOWN, 0)

    def test_join_and_unjoin(self):
        self.assertIsNone(self.session.join("b", "a"))
        self.check(TOWN.with_links([("a", "b"), ("a", "c")]), 1)
        self.session.join(one="b", other="c")
        self.check(TOWN.with_links([("a", "b"), ("a", "c"), ("b", "c")]), 2)
        self.assertIsNone(self.session.unjoin("c", "a"))
        self.check(TOWN.with_links([("a", "b"), ("b", "c")]), 3)
        self.session.unjoin(one="a", other="b")
        self.check(TOWN.with_links([("b", "c")]), 4)

    def test_links_that_are_none(self):
        for one, other in [("a", "c"), ("c", "a"), ("a", "a"), ("a", "d"), ("d", "a"), ("A", "b"), ("", "a")]:
            self.assert_raises(BadLink, "index", None, lambda: self.session.join(one, other))
        for one, other in [("a", "b"), ("b", "a"), ("c", "c"), ("a", "d"), ("d", "a"), (("a", "c"), "c")]:
            self.assert_raises(BadLink, "index", None, lambda: self.session.unjoin(one, other))
        for value in [value for value in any_values() if not isinstance(value, str)]:
            for call in (self.session.join, self.session.unjoin):
                self.assert_raises(BadLink, "index", None, lambda: call("a", value))
                self.assert_raises(BadLink, "index", None, lambda: call(value, "c"))
        self.check(TOWN, 0)

    def test_undo(self):
        self.session.put(Till("a", 9))
        self.session.join("a", "b")
        self.session.assign("money", 0)
        self.assertIsNone(self.session.undo())
        self.check(TOWN.with_till(Till("a", 9)).with_links([("a", "b"), ("a", "c")]), 2)
        self.session.undo()
        self.check(TOWN.with_till(Till("a", 9)), 1)
        self.session.assign("tops", 2)
        self.session.undo()
        self.session.undo()
        self.check(TOWN, 0)
        for _ in range(2):
            self.assert_raises(NothingToUndo, "name", "undo", self.session.undo)
        self.check(TOWN, 0)

    def test_changes_behind_which_the_town_is_as_it_was(self):
        self.session.put(Till("a", 2))
        self.session.assign("money", 1)
        self.check(TOWN, 2)
        self.session.undo()
        self.check(TOWN, 1)
        self.session.undo()
        self.assert_raises(NothingToUndo, "name", "undo", self.session.undo)

    def test_many_changes(self):
        chance = random.Random(3)
        towns = [TOWN]
        for _ in range(300):
            if chance.random() < 0.4 and len(towns) > 1:
                self.session.undo()
                towns.pop()
            else:
                money = chance.randrange(10)
                self.session.assign("money", money)
                towns.append(towns[-1].changed("money", money))
            self.check(towns[-1], len(towns) - 1)


class Attempts(Raising):
    def setUp(self):
        self.session = Session(TOWN)
        self.session.assign("money", 5)
        self.session.assign("money", 6)
        self.ahead = TOWN.changed("money", 6)

    def check_as_ahead(self):
        self.assertEqual((self.session.current(), len(self.session)), (self.ahead, 2))
        self.session.undo()
        self.assertEqual(self.session.current(), TOWN.changed("money", 5))
        self.session.undo()
        self.assertEqual(self.session.current(), TOWN)
        self.assert_raises(NothingToUndo, "name", "undo", self.session.undo)

    def test_it_returns_what_the_visitor_returns(self):
        given = []
        kept = [1]

        def visitor(session):
            given.append(session)
            session.put(Till("a", 9))
            session.join("a", "b")
            return kept
        self.assertIs(self.session.attempt(visitor), kept)
        self.assertEqual(len(given), 1)
        self.assertIs(given[0], self.session)
        self.assertIsNone(self.session.attempt(visitor=lambda session: None))
        self.check_as_ahead()

    def test_what_it_sees(self):
        def visitor(session):
            session.assign("tops", 3)
            return session.current(), len(session)
        self.assertEqual(self.session.attempt(visitor), (self.ahead.changed("tops", 3), 3))
        self.check_as_ahead()

    def test_undo_within(self):
        def visitor(session):
            session.undo()
            session.undo()
            with self.assertRaises(NothingToUndo):
                session.undo()
            session.assign("money", 9)
            return len(session)
        self.assertEqual(self.session.attempt(visitor), 1)
        self.check_as_ahead()

    def test_errors_pass_on(self):
        error = Stopped()

        def visitor(session):
            session.undo()
            session.put(Till("a", 9))
            session.put(Till("b", 9))
            raise error
        with self.assertRaises(Stopped) as caught:
            self.session.attempt(visitor)
        self.assertIs(caught.exception, error)
        self.assert_raises(BadPart, "part", "money", lambda: self.session.attempt(lambda one: one.assign("money", 10)))
        self.assert_raises(KeyboardInterrupt, "args", (), lambda: self.session.attempt(interrupt))
        with self.assertRaises(TypeError):
            self.session.attempt(None)
        self.check_as_ahead()

    def test_within_one_another(self):
        def inner(session):
            session.undo()
            session.assign("money", 1)
            return session.current().money, len(session)

        def outer(session):
            session.assign("money", 9)
            told = session.attempt(inner)
            with self.assertRaises(Stopped):
                with session.trial():
                    session.undo()
                    raise Stopped()
            return told, session.current().money, len(session)
        self.assertEqual(self.session.attempt(outer), ((1, 3), 9, 3))
        self.check_as_ahead()

    def test_trials(self):
        with self.session.trial() as session:
            self.assertIs(session, self.session)
            session.join("a", "b")
            session.undo()
            session.undo()
            session.assign("tops", 1)
            self.assertEqual((session.current(), len(session)), (TOWN.changed("money", 5).changed("tops", 1), 2))
        self.check_as_ahead()

    def test_trials_with_errors(self):
        error = Stopped()
        with self.assertRaises(Stopped) as caught:
            with self.session.trial() as session:
                session.put(Till("a", 9))
                raise error
        self.assertIs(caught.exception, error)
        with self.assertRaises(BadPart):
            with self.session.trial():
                self.session.undo()
                self.session.assign("money", 1)
                self.session.assign("money", None)
        with self.assertRaises(KeyboardInterrupt):
            with self.session.trial():
                interrupt(self.session)
        self.check_as_ahead()

    def test_trials_within_one_another(self):
        with self.session.trial() as outer:
            outer.assign("money", 1)
            with outer.trial() as inner:
                inner.undo()
                inner.undo()
                inner.undo()
                self.assertEqual(len(inner), 0)
                inner.assign("money", 2)
                self.assertEqual(inner.attempt(lambda session: session.undo() or len(session)), 0)
                self.assertEqual((inner.current().money, len(inner)), (2, 1))
            self.assertEqual((outer.current().money, len(outer)), (1, 3))
            outer.assign("money", 3)
        self.check_as_ahead()

    def test_a_trial_begins_with_its_with(self):
        trial = self.session.trial()
        self.session.assign("money", 8)
        with trial:
            self.session.undo()
            self.session.undo()
        self.assertEqual((self.session.current().money, len(self.session)), (8, 3))

    def test_a_trial_can_be_left_early(self):
        for _ in range(2):
            with self.session.trial() as session:
                session.undo()
                break
        self.check_as_ahead()

    def test_towns_from_within_stay(self):
        with self.session.trial() as session:
            session.assign("money", 9)
            town = session.current()
        self.assertEqual(town, TOWN.changed("money", 9))
        self.check_as_ahead()

    def test_two_sessions(self):
        other = Session(TOWN)
        with self.session.trial():
            other.assign("money", 4)
            self.session.assign("money", 3)
        self.assertEqual((other.current().money, len(other)), (4, 1))
        self.check_as_ahead()


def interrupt(session):
    session.undo()
    raise KeyboardInterrupt()


if __name__ == "__main__":
    unittest.main()
