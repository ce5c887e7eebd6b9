"""Forms: terms, orders, what is needed, and the forms of towns, purses, clocks and reaches."""

import itertools
import random
import unittest
from fractions import Fraction

from cutofftills.days import Clocks, closed_days
from cutofftills.errors import BadForm, BadLimits, BadPart, TooMany
from cutofftills.forms import Form, clock_form, form_of, loss_form, parting_limits, purse_form, reach_form
from cutofftills.maps import Map
from cutofftills.purchases import Allowance, most_by
from cutofftills.purses import Purse, closed_shared
from cutofftills.reach import Reach, reach_of
from cutofftills.sums import closed_loss, closed_most
from cutofftills.tills import Till
from cutofftills.towns import Town
from cutofftills.worst import most_after_loss, most_overspent
from odd import any_values, odd_values
from test_limits import Raising

ONE = Form(2, [((1, 1), 1), ((0, 1), 0), ((1, 0), 0)])
LINKS = [[], [("a", "b")], [("a", "b"), ("b", "c")], [("a", "b"), ("c", "d")],
         [("a", "b"), ("a", "c"), ("a", "d")], [("b", "d")]]


def told(terms, limits):
    return max([0] + [sum(number * limit for number, limit in zip(times, limits)) - off for times, off in terms])


def plain_terms(many, terms):
    """Terms and (zeros, 0) without those that another one is never below, ascending."""
    rows = set(terms) | {((0,) * many, 0)}
    kept = [row for row in rows if not any(
        other != row and other[1] <= row[1] and all(two >= one for one, two in zip(row[0], other[0])) for other in rows)]
    return tuple(sorted(kept))


def random_terms(chance, many, most=8, top=4, off=5):
    return [(tuple(chance.randrange(top) for _ in range(many)), chance.randrange(off))
            for _ in range(chance.randrange(most))]


def corners(many, top):
    """Limits of which some part two forms with small numbers, if any do."""
    return [[Fraction(number, over) for number in row] for over in (1, 2, 3)
            for row in itertools.product(range(top), repeat=many)]


class Class(Raising):
    def test_terms(self):
        self.assertEqual((ONE.size, ONE.terms, len(ONE)), (2, (((0, 1), 0), ((1, 0), 0), ((1, 1), 1)), 3))
        self.assertEqual(Form(1, []).terms, (((0,), 0),))
        self.assertEqual(Form(terms=(((0, 0, 0), 4),), many=3).terms, (((0, 0, 0), 0),))
        self.assertEqual(Form(2, [((1, 0), 0), ((1, 0), 3), ((2, 0), 0), ((2, 0), 0)]).terms, (((2, 0), 0),))
        self.assertEqual(Form(1, [((3,), 2), ((2,), 1), ((5,), 2)]).terms, (((0,), 0), ((2,), 1), ((5,), 2)))
        self.assertEqual(Form(1, [((10 ** 40,), 10 ** 50)]).terms, (((0,), 0), ((10 ** 40,), 10 ** 50)))

    def test_random_terms(self):
        chance = random.Random(71)
        for _ in range(400):
            many = chance.randrange(1, 5)
            terms = random_terms(chance, many)
            self.assertEqual(Form(many, terms).terms, plain_terms(many, terms))

    def test_wrong_values_in_order(self):
        for value in odd_values() + [0, 5, -1, True, "1", (1,)]:
            self.assert_raises(BadPart, "part", "many", lambda: Form(value, None))
        for value in odd_values() + [1, True, ""]:
            self.assert_raises(BadForm, "index", None, lambda: Form(2, value))
        for value in any_values() + [((1,), 0), ((1, 2, 3), 0), ([1, 2], 0), ((1, 2), -1), ((1, -2), 0), ((1, 2), True),
                                     ((True, 2), 0), [(1, 2), 0], ((1, 2),), ((1, 2), 0, 0), ((1, "2"), 0)]:
            self.assert_raises(BadForm, "index", 0, lambda: Form(2, [value, None]))
            self.assert_raises(BadForm, "index", 1, lambda: Form(2, (((1, 1), 0), value)))
        for value in odd_values():
            for term in [((1, value), 0), ((1, 1), value), (value, 0)]:
                self.assert_raises(BadForm, "index", 0, lambda: Form(2, [term]))

    def test_too_many(self):
        rows = [((at, 40 - at), 0) for at in range(40)]
        self.assertEqual(len(Form(2, rows[:32])), 32)
        self.assert_too_many(lambda: Form(2, rows[:33]), 32)
        self.assert_too_many(lambda: Form(1, [((at,), at) for at in range(1, 33)]), 32)
        self.assertEqual(len(Form(1, [((at,), at) for at in range(1, 32)])), 32)
        self.assertEqual(len(Form(2, rows[:32] + [((1, 1), 0)] * 100)), 32)
        self.assert_raises(BadForm, "index", 40, lambda: Form(2, rows + [None]))
        one, other = Form(2, rows[:20]), Form(2, rows[20:])
        self.assert_too_many(lambda: one | other, 32)
        self.assert_too_many(lambda: Form(2, [((at, 8 - at), at * at) for at in range(8)])
                             + Form(2, [((at, 80 - 9 * at), 5 * at) for at in range(8)]), 32)
        self.assertEqual(len(Form(2, rows[:16]) | Form(2, rows[8:32])), 32)
        self.assertEqual(len(Form(2, rows[:16]) + Form(2, rows[8:20])), 27)

    def test_what_is_handed_in_is_not_kept(self):
        terms = [((1, 1), 0)]
        form = Form(2, terms)
        terms.append(None)
        self.assertEqual(form.terms, (((1, 1), 0),))


class Telling(Raising):
    def test_by_hand(self):
        self.assertEqual([ONE(limits) for limits in [(0, 0), [3, 0], [0, 4], [3, 4]]], [0, 3, 4, 6])
        self.assertEqual(Form(1, [((1,), 5)])([3]), 0)
        self.assertEqual(ONE(limits=[10 ** 99, 1]), 10 ** 99)
        self.assertEqual(Form(4, [((10 ** 30,) * 4, 1)])([10 ** 60] * 4), 4 * 10 ** 90 - 1)

    def test_wrong_limits(self):
        for value in any_values() + [[1], [1, 2, 3], [1, -1], [1, True], [1, None], "12", {0: 1, 1: 2}]:
            self.assert_raises(BadLimits, "limits", value, lambda: ONE(value))

    def test_random_forms(self):
        chance = random.Random(72)
        for _ in range(300):
            many = chance.randrange(1, 5)
            terms, others = random_terms(chance, many, most=6), random_terms(chance, many, most=6)
            one, other = Form(many, terms), Form(many, others)
            sums = [(tuple(map(sum, zip(term[0], more[0]))), term[1] + more[1])
                    for term in terms + [((0,) * many, 0)] for more in others + [((0,) * many, 0)]]
            self.assertEqual((one | other).terms, plain_terms(many, terms + others))
            self.assertEqual((one + other).terms, plain_terms(many, sums))
            for _ in range(20):
                limits = [chance.randrange(9) for _ in range(many)]
                self.assertEqual(one(limits), told(terms, limits))
                self.assertEqual((one + other)(limits), one(limits) + other(limits))
                self.assertEqual((one | other)(limits), max(one(limits), other(limits)))

    def test_other_kinds(self):
        for value in any_values() + [Form(1, []), Form(3, []), ONE.terms, Form]:
            for call in (lambda: ONE + value, lambda: ONE | value, lambda: ONE <= value):
                self.assert_raises(BadPart, "part", "other", call)
            self.assertIs(ONE == value, False)
            self.assert_raises(BadPart, "part", "other", lambda: parting_limits(ONE, value))
        for value in any_values() + [ONE.terms, Form]:
            self.assert_raises(BadPart, "part", "one", lambda: parting_limits(value, None))


class Orders(Raising):
    def test_by_hand(self):
        mixed = Form(2, [((2, 0), 0), ((0, 2), 0)])
        self.assertIs(Form(2, [((1, 1), 0)]) <= mixed, True)
        self.assertIs(mixed <= Form(2, [((1, 1), 0)]), False)
        self.assertIs(Form(2, [((1, 1), 0)]) | mixed == mixed, True)
        self.assertIs(Form(2, [((1, 1), 0)]) | mixed != mixed, False)
        # A mixture of all three is needed, and one with the term of 0.
        self.assertIs(Form(3, [((1, 1, 1), 0)]) <= Form(3, [((3, 0, 0), 0), ((0, 3, 0), 0), ((0, 0, 3), 0)]), True)
        self.assertIs(Form(3, [((1, 1, 2), 0)]) <= Form(3, [((3, 0, 0), 0), ((0, 3, 0), 0), ((0, 0, 3), 0)]), False)
        self.assertIs(Form(1, [((1,), 2)]) <= Form(1, [((2,), 4)]), True)
        self.assertIs(Form(1, [((1,), 1)]) <= Form(1, [((2,), 4)]), False)
        # At integers this one is never above, but between them it is.
        self.assertIs(Form(1, [((2,), 1)]) <= Form(1, [((1,), 0), ((3,), 3)]), False)
        self.assertIs(ONE == Form(2, [((0, 1), 0), ((1, 1), 1), ((1, 0), 0)]), True)
        self.assertIs(Form(1, []) == Form(2, []), False)
        for one, other in [(ONE, mixed), (mixed, ONE), (Form(2, []), ONE), (ONE, Form(2, []))]:
            self.assertIs(one == other, False)

    def check(self, one, other):
        point = parting_limits(one, other)
        self.assertIs(one <= other, point is None)
        if point is None:
            return True
        numbers, over = point
        self.assertEqual([type(point), len(point), len(numbers), type(over)], [tuple, 2, one.size, int])
        self.assertTrue(over > 0 and all(type(number) is int and number >= 0 for number in numbers), point)
        limits = [Fraction(number, over) for number in numbers]
        self.assertGreater(told(one.terms, limits), told(other.terms, limits))
        return False

    def test_random_forms(self):
        chance = random.Random(73)
        grids = {many: corners(many, top) for many, top in ((1, 12), (2, 5), (3, 3), (4, 2))}
        below = 0
        for _ in range(500):
            many = chance.randrange(1, 5)
            one = Form(many, random_terms(chance, many, most=4))
            other = Form(many, random_terms(chance, many, most=8))
            for pair in [(one, other), (other, one), (one, one | other), (one, one + other), (one + other, other)]:
                if self.check(*pair):
                    below += 1
                    for limits in grids[many]:
                        self.assertLessEqual(told(pair[0].terms, limits), told(pair[1].terms, limits))
        self.assertTrue(600 < below < 2200, below)

    def test_mixtures(self):
        chance = random.Random(74)
        for _ in range(200):
            many = chance.randrange(1, 5)
            form = Form(many, random_terms(chance, many, most=9, top=9, off=9))
            parts = [chance.randrange(4) for _ in form.terms]
            over = max(1, sum(parts))
            times = tuple(sum(part * term[0][at] for part, term in zip(parts, form.terms)) // over
                          for at in range(many))
            off = -(-sum(part * term[1] for part, term in zip(parts, form.terms)) // over)
            self.assertTrue(self.check(Form(many, [(times, off)]), form))
            self.assertTrue(self.check(form, form))

    def test_numbers_of_any_size(self):
        big = 10 ** 60
        one = Form(2, [((big, 0), 0), ((0, big), 0)])
        self.assertIs(self.check(Form(2, [((big // 2, big // 2), 0)]), one), True)
        self.assertIs(self.check(Form(2, [((big // 2, big // 2 + 1), 0)]), one), False)
        self.assertIs(self.check(Form(2, [((big, 1), big ** 2)]), one), False)
        self.assertIs(self.check(Form(2, [((big, 0), big), ((1, 1), 0)]), one), True)

    def test_forms_of_many_terms(self):
        chance = random.Random(75)
        for many in (3, 4):
            for _ in range(6):
                rows = [[(tuple(chance.randrange(10 ** 29) for _ in range(many)), chance.randrange(10 ** 30))
                         for _ in range(31)] for _ in range(2)]
                one, other = Form(many, rows[0]), Form(many, rows[1])
                self.check(one, other)
                self.assertEqual(one.needed(), one)

    def test_needed(self):
        form = Form(2, [((1, 1), 0), ((2, 0), 0), ((0, 2), 0)])
        self.assertEqual(form.needed().terms, (((0, 2), 0), ((2, 0), 0)))
        self.assertEqual(Form(1, [((1,), 2), ((2,), 4)]).needed().terms, (((0,), 0), ((2,), 4)))
        self.assertEqual(Form(3, []).needed().terms, (((0, 0, 0), 0),))
        chance = random.Random(76)
        fewer = 0
        for _ in range(200):
            many = chance.randrange(1, 5)
            form = Form(many, random_terms(chance, many, most=20, top=6))
            needed = form.needed()
            zero = ((0,) * many, 0)
            self.assertEqual(needed, form)
            self.assertTrue(set(needed.terms) <= set(form.terms) | {zero})
            for term in needed.terms:
                if term != zero:
                    self.assertNotEqual(Form(many, [other for other in needed.terms if other != term]), form)
            fewer += len(needed) < len(form)
        self.assertGreater(fewer, 40)


def plain_towns():
    for many in range(1, 5):
        for links in LINKS:
            if all(name in "abcd"[:many] for link in links for name in link):
                for money, tops in ((0, 0), (1, 0), (0, 1), (9, 5)):
                    yield Town.even(many, 0, money).changed("tops", tops).with_links(links)


class Towns(Raising):
    def rows(self, many):
        chance = random.Random(77)
        return [[chance.choice((0, 0, 1, 2, 3, 9)) for _ in range(many)] for _ in range(40)] + [[0] * many, [9] * many]

    def test_towns(self):
        for town in plain_towns():
            form, loss = form_of(town), loss_form(town)
            self.assertEqual((form.size, loss.size), (len(town), len(town)))
            for limits in self.rows(len(town)):
                other = town.with_limits(limits)
                self.assertEqual((form(limits), loss(limits)), (closed_most(other), closed_loss(other)))

    def test_searched_towns(self):
        for town in plain_towns():
            if len(town) < 3 and town.money + town.tops < 3:
                for limits in itertools.product((0, 1, 2), repeat=len(town)):
                    other = town.with_limits(limits)
                    self.assertEqual(form_of(town)(limits), most_overspent(other))
                    self.assertEqual(loss_form(town)(limits), most_after_loss(other))

    def test_purses_and_clocks(self):
        for town in plain_towns():
            for cards in (1, 2):
                form = purse_form(Purse(town, cards))
                for limits in self.rows(len(town)):
                    self.assertEqual(form(limits), closed_shared(Purse(town.with_limits(limits), cards)))
            for days in range(6):
                form = clock_form(Clocks(town, days=days))
                for limits in self.rows(len(town)):
                    self.assertEqual(form(limits), closed_days(Clocks(town.with_limits(limits), days=days)))
            self.assertIsNone(clock_form(Clocks(town)))

    def test_by_hand(self):
        town = Town.even(2, 3, 1)
        self.assertEqual(form_of(town=town), ONE)
        self.assertEqual(loss_form(town=town).terms, (((1, 1), 0),))
        self.assertEqual(form_of(town.with_links([("a", "b")])).terms, (((0, 1), 0), ((1, 0), 0)))
        self.assertEqual(purse_form(purse=Purse(Town.even(1, 0, 1), 2)).terms, (((0,), 0), ((2,), 1)))
        self.assertEqual(clock_form(clocks=Clocks(Town.even(1, 0, 1), days=2)).terms, (((0,), 0), ((3,), 1)))
        self.assertEqual(form_of(Town.even(3, 3, 0)).terms, (((0, 0, 0), 0),))
        # Limits of any size, and fractions between them, are told, too.
        self.assertEqual(form_of(town)([10 ** 20, 1]), 10 ** 20)

    def test_other_towns(self):
        for town in [Town([Till("a", 1, heeds=False), Till("b", 1)], money=1),
                     Town.even(2, 1, 1).changed("memory", ("times", 9)), Town([Till("a", 0, heeds=False)])]:
            self.assertIsNone(form_of(town))
            self.assertIsNone(loss_form(town))
            self.assertIsNone(purse_form(Purse(town, 2)))
            self.assertIsNone(clock_form(Clocks(town, days=1)))

    def test_wrong_values(self):
        town = Town.even(1, 1, 1)
        things = {"town": town, "purse": Purse(town, 1), "clocks": Clocks(town, days=1), "reach": Reach(1, [])}
        for part, calls in [("town", (form_of, loss_form)), ("purse", (purse_form,)), ("clocks", (clock_form,)),
                            ("reach", (reach_form,))]:
            for value in any_values() + [things[key] for key in things if key != part]:
                for call in calls:
                    self.assert_raises(BadPart, "part", part, lambda: call(value))


class Reaches(Raising):
    def test_by_hand(self):
        self.assertEqual(reach_form(reach=Reach(2, [(1, 2), (3, 0)])).terms, (((1, 2), 0), ((3, 0), 0)))
        self.assertEqual(reach_form(Reach(3, [])).terms, (((0, 0, 0), 0),))
        self.assertIsNone(reach_form(Reach(2, [(1, 2), (None, 0)])))
        self.assertEqual(len(reach_form(Reach(2, [(at, 31 - at) for at in range(32)]))), 32)
        self.assert_too_many(lambda: reach_form(Reach(2, [(at, 40 - at) for at in range(33)])), 32)
        self.assertIsNone(reach_form(Reach(3, [(at, 40 - at, 0) for at in range(33)] + [(0, 0, None)])))

    def test_what_can_be_paid(self):
        chart = Map([["a"], ["b"], ["c"]], [("a", "b"), ("b", "c")], outages=[1, 1, 1])
        form = reach_form(reach_of(chart))
        for limits in itertools.product((0, 1, 5), repeat=3):
            self.assertEqual(form(limits), most_by(reach_of(chart), Allowance(limits)))
        self.assertEqual(form([1, 10 ** 40, 3]), 10 ** 40 + 3)


if __name__ == "__main__":
    unittest.main()
