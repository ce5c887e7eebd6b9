"""The papers of the library: their form, and that a plain checker lets them."""

import unittest

import plainpapers
from cutofftills.checker import lets_loss, lets_most, lets_refusal, lets_twice
from cutofftills.errors import TooMany
from cutofftills.graphs import reached_states
from cutofftills.honest import refused_run, taken_twice
from cutofftills.papers import loss_paper, most_paper, refusal_paper, twice_paper
from cutofftills.tills import Till
from cutofftills.towns import Town
from cutofftills.worst import loss_run, most_after_loss, most_overspent, worst_run
from plain import small_towns
from test_graphs import LARGE, just_too_large, nearly_too_large
from test_worst import deaf

FIRST = ((True,), (0,), (False,), 0, 1, False, 0)


class ByHand(unittest.TestCase):
    def test_most(self):
        lost, cut, lost_and_cut = ((True,), (0,), (False,), 0, 1, True, 0), ((False,), (0,), (False,), 0, 1, False, 0), (
            (False,), (0,), (True,), 0, 1, True, 0)
        told = most_paper(Town.even(1, 0, 1))
        self.assertEqual(told[:3], ("most", 0, []))
        heights = dict(told[3])
        self.assertEqual([heights[state] for state in (FIRST, lost, cut, lost_and_cut)], [0, 0, 0, 0])
        self.assertEqual(heights[((True,), (0,), (False,), 0, 0, False, 0)], 1)
        self.assertEqual([state for state, _ in told[3]], reached_states(Town.even(1, 0, 1)))

    def test_rings(self):
        for town in (deaf(1), deaf(2, money=1, tops=1)):
            self.assertEqual(most_paper(town), ("ring",) + worst_run(town))
            self.assertEqual(loss_paper(town), ("ring",) + loss_run(town))
            self.assertIs(lets_most(town, most_paper(town)), True)
            self.assertIs(lets_loss(town, loss_paper(town)), True)
            # A ring behind a loss tells that there is no most at all.
            self.assertIs(lets_most(town, loss_paper(town)), True)

    def test_refusals(self):
        self.assertEqual(refusal_paper(Town.even(1, 0, 1)), ("run", [("cut", "a"), ("pay", "a", 1)]))
        town = Town.even(1, 0, 0)
        self.assertEqual(refusal_paper(town), ("never", [((True,), (0,), (False,), 0, 0, False, 0),
                                                         ((False,), (0,), (True,), 0, 0, False, 0)]))

    def test_twice(self):
        town = Town.even(1, 1, 1).changed("numbered", False)
        self.assertEqual(twice_paper(town), ("run", [("cut", "a"), ("pay", "a", 1), ("line", "a"), ("again", "a")]))
        self.assertEqual(twice_paper(Town.even(4, 9, 9)), ("never", []))
        town = Town.even(1, 0, 1).changed("numbered", False)
        self.assertEqual(twice_paper(town), ("never", reached_states(town)))


class Papers(unittest.TestCase):
    def check_climb(self, paper, most, told):
        if most is None:
            self.assertEqual(paper, ("ring",) + told)
        else:
            self.assertEqual(paper[:3], ("most", most, told[0]))
            self.assertIs(type(paper[3]), list)
            self.assertEqual({(type(row), len(row)) for row in paper[3]}, {(tuple, 2)})
        self.assertEqual({type(part) for part in paper} - {str, int}, {list})
        self.assertIs(type(paper), tuple)

    def check_found(self, paper, events):
        self.assertEqual((type(paper), len(paper), type(paper[1])), (tuple, 2, list))
        self.assertEqual(paper[0], "never" if events is None else "run")
        if events is not None:
            self.assertEqual(paper[1], events)

    def test_they_tell_what_the_library_tells(self):
        for town in small_towns()[::7]:
            self.check_climb(most_paper(town), most_overspent(town), worst_run(town))
            self.check_climb(loss_paper(town), most_after_loss(town), loss_run(town))
            self.check_found(refusal_paper(town), refused_run(town))
            self.check_found(twice_paper(town), taken_twice(town))

    def test_both_checkers_let_them(self):
        for town in small_towns()[::7]:
            book = plainpapers.Book(town)
            for write, lets, plainly in ((most_paper, lets_most, plainpapers.lets_most),
                                         (loss_paper, lets_loss, plainpapers.lets_loss),
                                         (refusal_paper, lets_refusal, plainpapers.lets_refusal),
                                         (twice_paper, lets_twice, plainpapers.lets_twice)):
                paper = write(town)
                self.assertIs(lets(town, paper), True)
                self.assertIs(plainly(book, paper), True)

    def test_every_question_has_a_paper(self):
        kinds = {write: set() for write in (most_paper, loss_paper, refusal_paper, twice_paper)}
        for town in small_towns()[::7]:
            for write, found in kinds.items():
                found.add(write(town)[0])
        self.assertEqual(list(kinds.values()), [{"most", "ring"}, {"most", "ring"}, {"run", "never"},
                                                {"run", "never"}])

    def test_large_towns(self):
        town = nearly_too_large()
        paper = most_paper(town)
        self.assertEqual((paper[1], len(paper[3])), (23, 19988))
        self.assertIs(lets_most(town, paper), True)
        paper[3][-1] = (paper[3][-1][0], paper[3][-1][1] - 1)
        self.assertIs(lets_most(town, paper), False)

    def test_too_many(self):
        for town in (just_too_large(), LARGE):
            for write in (most_paper, loss_paper):
                with self.assertRaises(TooMany) as caught:
                    write(town)
                self.assertEqual(caught.exception.limit, 20000)
        with self.assertRaises(TooMany) as caught:
            refusal_paper(Town([Till(name, 9, heeds=False) for name in "abcd"], money=4, tops=5))
        self.assertEqual(caught.exception.limit, 20000)

    def test_by_name(self):
        town = Town.even(1, 1, 1)
        for write in (most_paper, loss_paper, refusal_paper, twice_paper):
            self.assertEqual(write(town=town), write(town))

    def test_the_lists_are_new(self):
        for town in (Town.even(1, 2, 1), deaf(1), Town.even(1, 2, 1).changed("numbered", False)):
            for write in (most_paper, loss_paper, refusal_paper, twice_paper):
                kept = [list(part) if isinstance(part, list) else part for part in write(town)]
                for part in write(town):
                    if isinstance(part, list):
                        part.clear()
                self.assertEqual(list(write(town)), kept)


if __name__ == "__main__":
    unittest.main()
