"""Point 7: arrows that can be turned alone, and the shortest rows from standing to standing."""

import unittest
from itertools import combinations, permutations

from tests import slow
from turnedapart.errors import NoNumber, NoStanding, TooMany
from turnedapart.homes import Home, from_order
from turnedapart.turns import alone, is_steps, many_rows, row_at, steps

LINE = Home(3, ((0, 1), (1, 2), (0, 2)))
NO_STANDINGS = [thing for thing in slow.ODD_VALUES if repr(thing) not in ("()", "((0, 1),)")] + [((0, 2),)]
NO_NUMBERS = (-1, -10 ** 29, True, False, None, "0", "", (0,), [0], {}, LINE, slow.nested(30, list))

# Between () and this order's standing lie just 625 and just 1667 standings.
HOME_625 = ((0, 1), (0, 2), (0, 3), (0, 5), (1, 2), (1, 3), (1, 4), (1, 5), (1, 6), (2, 3), (2, 5), (2, 6),
            (3, 4), (3, 5), (3, 6), (4, 5), (4, 6), (5, 6))
ORDER_625 = (6, 2, 5, 4, 1, 3, 0)
HOME_1667 = ((0, 1), (0, 2), (0, 3), (0, 4), (0, 5), (0, 6), (0, 7), (1, 2), (1, 3), (1, 4), (1, 5), (1, 6),
             (1, 7), (2, 3), (2, 5), (2, 7), (3, 4), (3, 5), (3, 6), (4, 6), (4, 7), (5, 7), (6, 7))
ORDER_1667 = (7, 5, 4, 1, 3, 2, 6, 0)


def pairs_of_standings():
    for place, home in enumerate(slow.small_homes()):
        for one, other in slow.some_pairs(slow.standings(home), place):
            yield home, one, other


def just_5000():
    """A home and a standing that has just 5000 standings between () and itself, each tie doubling 625."""
    ties = ((6, 7), (7, 8), (8, 9))
    other = from_order(Home(7, HOME_625), ORDER_625)
    return Home(10, HOME_625 + ties), other + ties


def just_5001():
    """The same with just 5001: a triangle, of which two arrows are turned, makes 1667 three times as many."""
    other = from_order(Home(8, HOME_1667), ORDER_1667)
    return Home(10, HOME_1667 + ((7, 8), (7, 9), (8, 9))), other + ((7, 8), (7, 9))


class Alone(unittest.TestCase):
    def test_each_arrow_tried(self):
        for home in slow.small_homes():
            every = slow.standings(home)
            for standing in every:
                tried = tuple(arrow for arrow in home.arrows if slow.turned(standing, arrow) in every)
                self.assertEqual(alone(home, standing), tried)

    def test_no_standing(self):
        for thing in NO_STANDINGS:
            self.assertRaises(NoStanding, alone, LINE, thing)


class Steps(unittest.TestCase):
    def test_the_least_of_all_rows(self):
        for home, one, other in pairs_of_standings():
            self.assertEqual(steps(home, one, other), slow.rows(home, one, other)[0])

    def test_as_many_as_differ(self):
        for home, one, other in pairs_of_standings():
            self.assertEqual(sorted(steps(home, one, other)), sorted(set(one) ^ set(other)))

    def test_no_step_at_all(self):
        self.assertEqual(steps(LINE, ((0, 1),), ((0, 1),)), ())
        self.assertEqual(steps(Home(1, ()), (), ()), ())

    def test_not_just_ascending(self):
        self.assertEqual(steps(LINE, (), LINE.arrows), ((0, 1), (0, 2), (1, 2)))
        late = Home(3, ((0, 1), (0, 2), (2, 1)))
        self.assertEqual(steps(late, (), late.arrows), ((0, 2), (0, 1), (2, 1)))

    def test_ten_things(self):
        home = Home(10, tuple(combinations(range(10), 2)))
        row = steps(home, (), home.arrows)
        self.assertEqual(len(row), 45)
        self.assertIs(is_steps(home, (), home.arrows, row), True)

    def test_no_standing(self):
        for thing in NO_STANDINGS:
            self.assertRaises(NoStanding, steps, LINE, thing, ())
            self.assertRaises(NoStanding, steps, LINE, (), thing)


class IsSteps(unittest.TestCase):
    def test_right_rows(self):
        for home, one, other in pairs_of_standings():
            for row in slow.rows(home, one, other)[:30]:
                self.assertIs(is_steps(home, one, other, row), True)

    def test_all_orders_of_the_arrows(self):
        for home in slow.small_homes():
            for one, other in slow.some_pairs(slow.standings(home), 1, 6):
                arrows = sorted(set(one) ^ set(other))
                right = set(slow.rows(home, one, other))
                for row in permutations(arrows[:5]):
                    self.assertIs(is_steps(home, one, other, row), row in right)

    def test_changed_rows(self):
        for home, one, other in pairs_of_standings():
            row = steps(home, one, other)
            for arrow in home.arrows:
                self.assertIs(is_steps(home, one, other, row + (arrow,)), False)
                self.assertIs(is_steps(home, one, other, row + (arrow, arrow)), False)
            if row:
                self.assertIs(is_steps(home, one, other, row[1:]), False)
                self.assertIs(is_steps(home, one, other, row[:-1]), False)
                self.assertIs(is_steps(home, one, other, list(row)), False)
                self.assertIs(is_steps(home, one, other, row[:-1] + (list(row[-1]),)), False)
                self.assertIs(is_steps(home, one, other, row[:-1] + (row[-1][::-1],)), False)
                self.assertIs(is_steps(home, one, other, row[:-1] + (row[0],)), len(row) == 1)

    def test_flags_are_no_things(self):
        home = Home(2, ((0, 1),))
        self.assertIs(is_steps(home, (), ((0, 1),), ((0, 1),)), True)
        for thing in (((False, True),), ((0, True),), ((False, 1),), [(0, 1)], ([0, 1],)):
            self.assertIs(is_steps(home, (), ((0, 1),), thing), False)

    def test_odd_values(self):
        for thing in slow.ODD_VALUES:
            self.assertIs(is_steps(LINE, (), ((0, 1),), thing), repr(thing) == "((0, 1),)")
            self.assertIs(is_steps(LINE, (), (), thing), repr(thing) == "()")
            self.assertIs(is_steps(LINE, (), LINE.arrows, (thing, thing, thing)), False)

    def test_no_standing(self):
        for thing in NO_STANDINGS:
            self.assertRaises(NoStanding, is_steps, LINE, thing, (), ())
            self.assertRaises(NoStanding, is_steps, LINE, (), thing, ())
            self.assertRaises(NoStanding, is_steps, LINE, thing, (), None)


class AllRows(unittest.TestCase):
    def test_against_a_listing(self):
        for home, one, other in pairs_of_standings():
            every = slow.rows(home, one, other)
            self.assertEqual(many_rows(home, one, other), len(every))
            for index in list(range(len(every)))[:40] + [len(every) - 1]:
                self.assertEqual(row_at(home, one, other, index), every[index])
            for index in (len(every), len(every) + 1, 10 ** 29):
                self.assertRaises(NoNumber, row_at, home, one, other, index)

    def test_the_first_is_told_by_steps(self):
        home = slow.random_home(6, 3)
        other = from_order(home, (5, 4, 3, 2, 1, 0))
        self.assertEqual(row_at(home, (), other, 0), steps(home, (), other))

    def test_one_standing(self):
        self.assertEqual(many_rows(LINE, ((0, 1),), ((0, 1),)), 1)
        self.assertEqual(row_at(LINE, ((0, 1),), ((0, 1),), 0), ())
        self.assertRaises(NoNumber, row_at, LINE, (), (), 1)

    def test_rows_that_do_not_hinder_one_another(self):
        home = Home(10, tuple((k, k + 1) for k in range(9)))
        self.assertEqual(many_rows(home, (), home.arrows), 362880)
        self.assertEqual(row_at(home, home.arrows, (), 362879), home.arrows[::-1])

    def test_all_things_tied(self):
        home = Home(6, tuple(combinations(range(6), 2)))
        self.assertEqual(many_rows(home, (), home.arrows), 292864)
        last = row_at(home, (), home.arrows, 292863)
        self.assertIs(is_steps(home, (), home.arrows, last), True)
        self.assertRaises(NoNumber, row_at, home, (), home.arrows, 292864)

    def test_too_many(self):
        home = Home(7, tuple(combinations(range(7), 2)))
        for one, other in (((), home.arrows), (home.arrows, ())):
            for index in (0, 10 ** 29):
                with self.assertRaises(TooMany) as caught:
                    row_at(home, one, other, index)
                self.assertEqual(caught.exception.most, 5000)
            with self.assertRaises(TooMany) as caught:
                many_rows(home, one, other)
            self.assertEqual(caught.exception.most, 5000)

    def test_only_those_between_count(self):
        home = Home(10, tuple(combinations(range(10), 2)))
        self.assertEqual(many_rows(home, (), ((0, 1), (2, 3))), 2)
        self.assertEqual(many_rows(home, home.arrows, home.arrows[1:]), 1)
        self.assertRaises(TooMany, many_rows, home, (), home.arrows)

    def test_just_as_many_as_may_be(self):
        home, other = just_5000()
        many = many_rows(home, (), other)
        self.assertEqual(many, many_rows(home, other, ()))
        self.assertEqual(row_at(home, (), other, 0), steps(home, (), other))
        self.assertIs(is_steps(home, (), other, row_at(home, (), other, many - 1)), True)
        self.assertRaises(NoNumber, row_at, home, (), other, many)

    def test_one_more_than_may_be(self):
        home, other = just_5001()
        self.assertRaises(TooMany, many_rows, home, (), other)
        self.assertRaises(TooMany, many_rows, home, other, ())
        self.assertRaises(TooMany, row_at, home, (), other, 0)

    def test_errors_in_their_order(self):
        home = Home(7, tuple(combinations(range(7), 2)))
        for index in NO_NUMBERS:
            self.assertRaises(NoNumber, row_at, LINE, (), (), index)
            self.assertRaises(NoNumber, row_at, home, (), home.arrows, index)
            self.assertRaises(NoStanding, row_at, home, None, (), index)
            self.assertRaises(NoStanding, row_at, home, (), [], index)
        for thing in NO_STANDINGS:
            self.assertRaises(NoStanding, row_at, LINE, thing, (), -1)
            self.assertRaises(NoStanding, row_at, LINE, (), thing, -1)
            self.assertRaises(NoStanding, many_rows, LINE, thing, ())
            self.assertRaises(NoStanding, many_rows, LINE, (), thing)
