"""Towns: their parts, the order of their errors, groups, and towns that are changed."""

import itertools
import unittest

from cutofftills.errors import BadLink, BadPart, BadTill, TooMany, TownError, UnknownTill
from cutofftills.tills import Till
from cutofftills.towns import Town
from odd import any_values, odd_values


def tills_of(names):
    return [Till(name, 1) for name in names.split()]


class Checked(unittest.TestCase):
    def assert_raises(self, error, attribute, value, call):
        with self.assertRaises(error) as caught:
            call()
        told = getattr(caught.exception, attribute)
        self.assertEqual(told, value)
        self.assertIs(type(told), type(value))

    def bad_till(self, index, tills, **parts):
        self.assert_raises(BadTill, "index", index, lambda: Town(tills, **parts))

    def bad_link(self, index, links, names="a b c", **parts):
        self.assert_raises(BadLink, "index", index, lambda: Town(tills_of(names), links=links, **parts))
        self.assert_raises(BadLink, "index", index, lambda: Town(tills_of(names)).with_links(links))

    def bad_part(self, part, **parts):
        self.assert_raises(BadPart, "part", part, lambda: Town(tills_of("a b"), **parts))


class Parts(Checked):
    def test_left_out(self):
        town = Town([Till("a", 3)])
        self.assertEqual((town.links, town.money, town.memory, town.tops), ((), 0, ("nothing",), 0))
        self.assertIs(town.numbered, True)
        self.assertEqual(town.names(), ["a"])

    def test_given(self):
        town = Town(tills_of("b a"), links=[("a", "b")], money=9, memory=("sum", 9), tops=5, numbered=False)
        self.assertEqual((town.links, town.money, town.memory, town.tops), ((("a", "b"),), 9, ("sum", 9), 5))
        self.assertIs(town.numbered, False)
        self.assertEqual(town.names(), ["b", "a"])

    def test_by_name(self):
        self.assertEqual(Town(tills=[Till("a", 1)], money=1), Town([Till("a", 1)], money=1))
        with self.assertRaises(TypeError):
            Town([Till("a", 1)], [])

    def test_a_tuple_of_tills(self):
        self.assertEqual(Town(tuple(tills_of("a b"))), Town(tills_of("a b")))

    def test_tills_that_are_no_list(self):
        for value in odd_values() + [True, 1, "a", "", Till("a", 1), Town(tills_of("a"))]:
            self.bad_till(None, value)
        self.bad_till(None, {"a": Till("a", 1)})
        self.bad_till(None, [])
        self.bad_till(None, ())

    def test_entries_that_are_no_tills(self):
        for value in any_values() + ["a", Till, Town(tills_of("a"))]:
            self.bad_till(0, [value])
            self.bad_till(1, [Till("a", 1), value, value])
            self.bad_till(3, (*tills_of("a b c"), value))
            self.bad_till(5, tills_of("a b c d e") + [value])

    def test_names_that_an_earlier_till_has(self):
        self.bad_till(1, tills_of("a a"))
        self.bad_till(2, tills_of("b a b a"))
        self.bad_till(3, tills_of("a b c a"))
        self.bad_till(1, [Till("a", 1), Till("a", 2, heeds=False)])
        self.bad_till(1, [Till("a", 1), Till("a", 1), None])
        self.bad_till(1, [Till("a", 1), None, Till("a", 1)])

    def test_one_to_four_tills(self):
        for many in range(1, 5):
            self.assertEqual(len(Town(tills_of("a b c d e")[:many])), many)
        for names in ("a b c d e", "a b c d e f"):
            self.assert_raises(TooMany, "limit", 4, lambda: Town(tills_of(names)))

    def test_a_wrong_entry_is_seen_ahead_of_too_many(self):
        self.bad_till(4, tills_of("a b c d a"))
        self.bad_till(4, tills_of("a b c d") + [None])

    def test_money_and_tops(self):
        for part, top in (("money", 9), ("tops", 5)):
            for value in range(top + 1):
                self.assertEqual(getattr(Town(tills_of("a"), **{part: value}), part), value)
            for value in [-1, top + 1, True, False, None, "1", (1,), [1]] + odd_values():
                self.bad_part(part, **{part: value})

    def test_memory(self):
        for memory in [("nothing",), ("times", 0), ("times", 9), ("sum", 0), ("sum", 9)]:
            self.assertEqual(Town(tills_of("a"), memory=memory).memory, memory)
        for value in [["nothing"], "nothing", ("times", 10), ("sum", -1), ("times", True), ("sum",), (), 0,
                      ["sum", 1]] + any_values():
            self.bad_part("memory", memory=value)

    def test_numbered(self):
        for value in [0, 1, None, "", (), (True,)] + odd_values():
            self.bad_part("numbered", numbered=value)

    def test_order_of_the_errors(self):
        wrong = {"links": None, "money": 10, "memory": (), "tops": 6, "numbered": 1}
        self.bad_till(None, None, **wrong)
        self.bad_till(1, tills_of("a a"), **wrong)
        self.assert_raises(TooMany, "limit", 4, lambda: Town(tills_of("a b c d e"), **wrong))
        self.assert_raises(BadLink, "index", None, lambda: Town(tills_of("a b"), **wrong))
        wrong["links"] = [("a", "b"), ("a", "b")]
        self.assert_raises(BadLink, "index", 1, lambda: Town(tills_of("a b"), **wrong))
        wrong["links"] = [("a", "b")]
        for part in ("money", "memory", "tops", "numbered"):
            self.bad_part(part, **wrong)
            del wrong[part]
        self.assertEqual(len(Town(tills_of("a b"), **wrong)), 2)

    def test_errors_are_town_errors(self):
        with self.assertRaises(TownError):
            Town([])

    def test_a_list_that_is_changed_later(self):
        tills = tills_of("a b c")
        links = [("a", "b")]
        town = Town(tills, links=links)
        tills.reverse()
        tills.pop()
        links.append(("b", "c"))
        self.assertEqual(town, Town(tills_of("a b c"), links=[("a", "b")]))
        self.assertEqual(len(town), 3)

    def test_arguments_are_not_changed(self):
        tills = tills_of("c a b")
        links = [("b", "c"), ("a", "b")]
        town = Town(tills, links=links)
        self.assertEqual(links, [("b", "c"), ("a", "b")])
        self.assertEqual([till.name for till in tills], ["c", "a", "b"])
        town.with_links(links)
        limits = [3, 2, 1]
        town.with_limits(limits)
        self.assertEqual((links, limits), ([("b", "c"), ("a", "b")], [3, 2, 1]))


class Links(Checked):
    def test_no_list(self):
        for value in odd_values() + [True, 0, "", "ab", {("a", "b"): 1}]:
            self.bad_link(None, value)

    def test_none(self):
        self.assertEqual(Town(tills_of("a b"), links=[]).links, ())
        self.assertEqual(Town(tills_of("a b"), links=()).links, ())

    def test_entries_that_are_no_links(self):
        for value in [["a", "b"], "ab", ("a",), ("a", "b", "c"), ("b", "a"), ("a", "a"), ("a", "d"), ("d", "e"),
                      ("aa", "b"), ("A", "b"), ("a", 1), (1, "b"), (None, None), (("a",), ("b",)), (True, "b"),
                      ("", "a"), ()]:
            self.bad_link(0, [value])
            self.bad_link(1, [("a", "b"), value, None])
            self.bad_link(2, (("a", "b"), ("a", "c"), value))
        for value in any_values():
            self.bad_link(1, [("a", "c"), value])
        for value in odd_values():
            self.bad_link(0, [("a", value)])
            self.bad_link(0, [(value, "b")])

    def test_one_that_an_earlier_one_is(self):
        self.bad_link(1, [("a", "b"), ("a", "b")])
        self.bad_link(2, [("a", "b"), ("b", "c"), ("a", "b"), ("b", "c")])

    def test_the_first_wrong_one(self):
        self.bad_link(1, [("a", "b"), ("c", "a"), ("a", "b")])
        self.bad_link(1, [("a", "b"), ("a", "b"), ("c", "a")])

    def test_a_link_of_a_town_with_one_till(self):
        self.bad_link(0, [("a", "b")], names="a")

    def test_the_ascending_tuple(self):
        names = "b a abc ab"
        pairs = [("a", "ab"), ("a", "abc"), ("a", "b"), ("ab", "abc"), ("ab", "b"), ("abc", "b")]
        self.assertEqual(pairs, sorted(pairs))
        for links in itertools.permutations(pairs):
            town = Town(tills_of(names), links=list(links))
            self.assertEqual(town.links, tuple(pairs))
        for many in range(7):
            for links in itertools.combinations(pairs, many):
                town = Town(tills_of(names), links=links[::-1])
                self.assertEqual(town.links, links)
                self.assertIs(type(town.links), tuple)


class Tills(Checked):
    def setUp(self):
        self.tills = [Till("c", 3), Till("a", 1, heeds=False), Till("b", 2)]
        self.town = Town(self.tills)

    def test_names_in_order(self):
        self.assertEqual(self.town.names(), ["c", "a", "b"])
        names = self.town.names()
        names.clear()
        self.assertEqual(self.town.names(), ["c", "a", "b"])
        self.assertIs(type(names), list)

    def test_the_till_of_a_name(self):
        for till in self.tills:
            self.assertEqual(self.town[till.name], till)

    def test_unknown_names(self):
        for value in ["d", "", "A", "ca", 0, 1, -1, True, None, ("c",), ["c"], slice(0, 1), b"c"] + odd_values():
            with self.assertRaises(UnknownTill) as caught:
                self.town[value]
            self.assertIs(caught.exception.name, value)
            with self.assertRaises(UnknownTill) as caught:
                self.town.group(value)
            self.assertIs(caught.exception.name, value)

    def test_contains(self):
        for name in "abc":
            self.assertIs(name in self.town, True)
        for value in ["d", "", "A", "ca", 0, 1, True, None, ("c",), ["c"], b"c"] + self.tills + odd_values():
            self.assertIs(value in self.town, False)

    def test_length(self):
        self.assertEqual(len(self.town), 3)

    def test_no_iteration(self):
        for call in (iter, list, tuple, sorted, enumerate, lambda town: [*town]):
            with self.assertRaises(TypeError):
                call(self.town)
        with self.assertRaises(TypeError):
            for _ in self.town:
                pass


class Groups(Checked):
    def test_without_links(self):
        town = Town(tills_of("c a b"))
        self.assertEqual([town.group(name) for name in "abc"], [["a"], ["b"], ["c"]])

    def test_links_lead_on(self):
        town = Town(tills_of("d a c b"), links=[("a", "b"), ("b", "c")])
        for name in "abc":
            self.assertEqual(town.group(name), ["a", "c", "b"])
        self.assertEqual(town.group("d"), ["d"])
        chain = Town(tills_of("a b c d"), links=[("c", "d"), ("b", "c"), ("a", "b")])
        for name in "abcd":
            self.assertEqual(chain.group(name), ["a", "b", "c", "d"])
        star = Town(tills_of("a b c d"), links=[("a", "d"), ("b", "d"), ("c", "d")])
        self.assertEqual(star.group("a"), ["a", "b", "c", "d"])
        pairs = Town(tills_of("a b c d"), links=[("a", "d"), ("b", "c")])
        self.assertEqual([pairs.group(name) for name in "abcd"], [["a", "d"], ["b", "c"], ["b", "c"], ["a", "d"]])

    def test_all_links_of_four_tills(self):
        names = ["b", "d", "a", "c"]
        pairs = list(itertools.combinations("abcd", 2))
        for many in range(7):
            for links in itertools.combinations(pairs, many):
                town = Town(tills_of("b d a c"), links=links)
                for name in names:
                    found = {name}
                    for _ in names:
                        found |= {other for link in links for other in link if found & set(link)}
                    self.assertEqual(town.group(name), [other for other in names if other in found])

    def test_the_list_is_new(self):
        town = Town(tills_of("a b"), links=[("a", "b")])
        group = town.group("a")
        group.clear()
        self.assertEqual(town.group(name="a"), ["a", "b"])
        self.assertIs(type(group), list)


class Equal(Checked):
    def test_equal_if_all_parts_are(self):
        def towns():
            two = tills_of("a b")
            yield Town(two)
            yield Town(two[::-1])
            yield Town(two[:1])
            yield Town([Till("a", 1), Till("b", 2)])
            yield Town([Till("a", 1), Till("b", 1, heeds=False)])
            yield Town(two, links=[("a", "b")])
            yield Town(two, money=1)
            yield Town(two, memory=("times", 1))
            yield Town(two, memory=("sum", 1))
            yield Town(two, memory=("sum", 2))
            yield Town(two, tops=1)
            yield Town(two, numbered=False)
        for at, one in enumerate(towns()):
            for place, other in enumerate(towns()):
                self.assertIs(one == other, at == place)
                self.assertIs(one != other, at != place)

    def test_the_order_of_the_links_does_not_count(self):
        self.assertEqual(Town(tills_of("a b c"), links=[("a", "b"), ("b", "c")]),
                         Town(tills_of("a b c"), links=[("b", "c"), ("a", "b")]))

    def test_other_classes_are_not_equal(self):
        town = Town(tills_of("a"))
        for value in any_values() + [Till("a", 1), "a", [Till("a", 1)]]:
            self.assertIs(town == value, False)


class Changed(Checked):
    def setUp(self):
        self.parts = {"links": [("a", "b")], "money": 3, "memory": ("sum", 4), "tops": 2, "numbered": False}
        self.tills = [Till("b", 2), Till("a", 1, heeds=False), Till("c", 3)]
        self.town = Town(self.tills, **self.parts)

    def tearDown(self):
        self.assertEqual(self.town, Town(self.tills, **self.parts))

    def test_with_till(self):
        for index, till in enumerate([Till("b", 9), Till("a", 1), Till("c", 0, heeds=False)]):
            tills = list(self.tills)
            tills[index] = till
            self.assertEqual(self.town.with_till(till), Town(tills, **self.parts))
        self.assertEqual(self.town.with_till(till=Till("b", 2)), self.town)

    def test_with_till_raises(self):
        for value in any_values() + ["a", Town([Till("a", 1)])]:
            with self.assertRaises(BadTill) as caught:
                self.town.with_till(value)
            self.assertIs(caught.exception.index, value)
        self.assert_raises(UnknownTill, "name", "d", lambda: self.town.with_till(Till("d", 1)))

    def test_with_links(self):
        self.parts["links"] = [("b", "c"), ("a", "c")]
        self.assertEqual(self.town.with_links([("b", "c"), ("a", "c")]), Town(self.tills, **self.parts))
        self.assertEqual(self.town.with_links(links=()).links, ())
        self.parts["links"] = [("a", "b")]

    def test_changed(self):
        for part, value in [("money", 0), ("money", 9), ("memory", ("nothing",)), ("memory", ("times", 0)),
                            ("tops", 0), ("tops", 5), ("numbered", True)]:
            self.assertEqual(self.town.changed(part, value), Town(self.tills, **{**self.parts, part: value}))
            self.assertEqual(self.town.changed(value=value, part=part), self.town.changed(part, value))

    def test_changed_raises_for_other_parts(self):
        for part in ["links", "tills", "limits", "", "Money", 0, True, None] + any_values():
            for value in (1, True, ("nothing",), ()):
                with self.assertRaises(BadPart) as caught:
                    self.town.changed(part, value)
                self.assertIs(caught.exception.part, part)

    def test_changed_raises_for_wrong_values(self):
        wrong = {"money": [10, -1, True, "1", None], "memory": [["nothing"], "nothing", ("times", 10), None],
                 "tops": [6, -1, True, False, None], "numbered": [0, 1, None, ""]}
        for part, values in wrong.items():
            for value in values + odd_values():
                self.assert_raises(BadPart, "part", part, lambda: self.town.changed(part, value))

    def test_with_limits(self):
        tills = [Till("b", 0), Till("a", 9, heeds=False), Till("c", 5)]
        self.assertEqual(self.town.with_limits([0, 9, 5]), Town(tills, **self.parts))
        self.assertEqual(self.town.with_limits(limits=(0, 9, 5)), Town(tills, **self.parts))

    def test_with_limits_raises(self):
        for value in [[], [1], [1, 2], [1, 2, 3, 4], [1, 2, 10], [-1, 2, 3], [1, True, 3], [False, 2, 3],
                      [1, None, 3], ["1", 2, 3], "123", 123, True, {1: 1, 2: 2, 3: 3}, [[1, 2, 3]]]:
            self.assert_raises(BadPart, "part", "limits", lambda: self.town.with_limits(value))
        for value in any_values():
            self.assert_raises(BadPart, "part", "limits", lambda: self.town.with_limits(value))
        for value in odd_values():
            self.assert_raises(BadPart, "part", "limits", lambda: self.town.with_limits([1, 2, value]))

    def test_limits_that_are_changed_later(self):
        limits = [3, 2, 1]
        town = self.town.with_limits(limits)
        limits.clear()
        self.assertEqual([town[name].limit for name in town.names()], [3, 2, 1])


class Even(Checked):
    def test_so_many_tills(self):
        for many in range(1, 5):
            town = Town.even(many, 9, 0)
            self.assertEqual(town, Town([Till(name, 9) for name in "abcd"[:many]], money=0))
        self.assertEqual(Town.even(2, 0, 9), Town([Till("a", 0), Till("b", 0)], money=9))
        self.assertEqual(Town.even(money=2, many=1, limit=3), Town([Till("a", 3)], money=2))

    def test_off_an_object(self):
        self.assertEqual(Town.even(1, 1, 1).even(2, 3, 4), Town.even(2, 3, 4))

    def test_order_of_the_errors(self):
        for many in [0, 5, -1, True, False, None, "2", [2]] + odd_values():
            self.assert_raises(TooMany, "limit", 4, lambda: Town.even(many, 1, 1))
            self.assert_raises(TooMany, "limit", 4, lambda: Town.even(many, 10, 10))
        for limit in [10, -1, True, None, "1"] + odd_values():
            self.assert_raises(BadPart, "part", "limit", lambda: Town.even(1, limit, 1))
            self.assert_raises(BadPart, "part", "limit", lambda: Town.even(4, limit, 10))
        for money in [10, -1, True, None, "1"] + odd_values():
            self.assert_raises(BadPart, "part", "money", lambda: Town.even(2, 1, money))

    def test_the_example_of_the_document(self):
        town = Town.even(2, 3, 1)
        self.assertEqual([town.names(), len(town), town.group('a')], [['a', 'b'], 2, ['a']])


if __name__ == "__main__":
    unittest.main()
