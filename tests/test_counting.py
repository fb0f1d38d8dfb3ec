"""Point 13: all standings, their number, their indexes, and colourings."""

import unittest
from fractions import Fraction
from itertools import combinations, product

from tests import slow
from turnedapart.counting import all_standings, colourings, index_of, many_standings, standing_at, within
from turnedapart.errors import NoNumber, NoStanding, TooMany
from turnedapart.homes import Home

LINE = Home(3, ((0, 1), (1, 2), (0, 2)))
# Each of four things is ahead of each of four others, but one of one: this has just 5000 standings.
JUST_5000 = Home(8, tuple(pair for pair in product(range(4), range(4, 8)) if pair != (0, 4)))
# No home of my searches has 5001 to 5003 standings; no number below 5004 but 5002 can be.
JUST_5004 = Home(9, ((0, 2), (0, 3), (0, 5), (0, 6), (1, 5), (1, 7), (2, 4), (2, 6), (3, 4), (3, 6), (3, 7), (4, 5),
                     (4, 6), (4, 8), (5, 7)))
ALL_TEN = Home(10, tuple(combinations(range(10), 2)))
GREAT = (JUST_5004, ALL_TEN, Home(7, tuple(combinations(range(7), 2))))
NO_STANDINGS = [thing for thing in slow.ODD_VALUES if repr(thing) not in ("()", "((0, 1),)")] + [((0, 2),)]
NO_NUMBERS = (True, False, None, "", "0", "-1", (), (0,), [], [0], {}, {0: 0}, LINE, ((0, 1),), "~" * 20000,
              slow.nested(30, list), slow.nested(30, tuple), slow.nested(30, dict))


def round_of(many):
    """A home whose ties are one closed round."""
    return Home(many, tuple((k, k + 1) for k in range(many - 1)) + ((0, many - 1),))


def coloured(home, colours):
    """In how many ways the colours can be given, by trying out all."""
    rows = product(range(colours), repeat=home.many)
    return sum(all(row[u] != row[v] for u, v in home.arrows) for row in rows)


def polynomial_at(values, x):
    """What the polynomial through (0, values[0]), (1, values[1]) and so forth tells for x."""
    total = Fraction(0)
    for k, value in enumerate(values):
        part = Fraction(value)
        for other in range(len(values)):
            if other != k:
                part *= Fraction(x - other, k - other)
        total += part
    return total


class AllStandings(unittest.TestCase):
    def test_against_all_lots(self):
        for home in slow.small_homes() + tuple(slow.rounds_of_ties()) + slow.bad_homes():
            every = list(slow.standings(home))
            self.assertEqual(all_standings(home), every)
            self.assertEqual(many_standings(home), len(every))

    def test_some(self):
        self.assertEqual(all_standings(Home(1, ())), [()])
        self.assertEqual(all_standings(Home(10, ())), [()])
        self.assertEqual(all_standings(Home(2, ((1, 0),))), [(), ((1, 0),)])
        self.assertEqual(all_standings(LINE), [(), ((0, 1),), ((0, 1), (0, 2)), ((0, 1), (0, 2), (1, 2)),
                                               ((0, 2), (1, 2)), ((1, 2),)])

    def test_each_list_is_new(self):
        every = all_standings(LINE)
        every.append(None)
        every[0] = 1
        self.assertEqual(len(all_standings(LINE)), 6)
        self.assertEqual(standing_at(LINE, 0), ())

    def test_just_5000(self):
        every = all_standings(JUST_5000)
        self.assertEqual((len(every), many_standings(JUST_5000)), (5000, 5000))
        self.assertEqual((every[0], len(set(every)), every), ((), 5000, sorted(every)))
        self.assertIn(JUST_5000.arrows, every)

    def test_too_many(self):
        self.assertEqual(many_standings(JUST_5004), 5004)
        for home in GREAT:
            with self.assertRaises(TooMany) as caught:
                all_standings(home)
            self.assertEqual(caught.exception.most, 5000)


class ManyStandings(unittest.TestCase):
    def test_homes_known_by_hand(self):
        factorial = 1
        for many in range(1, 11):
            factorial *= many
            self.assertEqual(many_standings(Home(many, tuple(combinations(range(many), 2)))), factorial)
            path = Home(many, tuple((k, k + 1) if k % 3 else (k + 1, k) for k in range(many - 1)))
            star = Home(many, tuple((k, 0) for k in range(1, many)))
            self.assertEqual((many_standings(path), many_standings(star)), (2 ** (many - 1),) * 2)
            self.assertEqual(many_standings(Home(many, ())), 1)
        for many in range(3, 11):
            self.assertEqual(many_standings(round_of(many)), 2 ** many - 2)

    def test_homes_beside_one_another(self):
        for first, second in ((3, 3), (3, 7), (4, 6), (5, 5)):
            shifted = tuple((u + first, v + first) for u, v in round_of(second).arrows)
            beside = Home(first + second, round_of(first).arrows + shifted)
            self.assertEqual(many_standings(beside), (2 ** first - 2) * (2 ** second - 2))
            tied = Home(first + second, beside.arrows + ((0, first),))
            self.assertEqual(many_standings(tied), 2 * (2 ** first - 2) * (2 ** second - 2))

    def test_rounds_that_share_a_thing(self):
        home = Home(9, round_of(5).arrows + ((4, 5), (5, 6), (6, 7), (7, 8), (4, 8)))
        self.assertEqual(many_standings(home), 900)


class Colourings(unittest.TestCase):
    def test_against_all_ways(self):
        for home in slow.small_homes() + tuple(slow.rounds_of_ties()):
            for colours in range(5):
                self.assertEqual(colourings(home, colours), coloured(home, colours))

    def test_by_the_polynomial(self):
        for home in slow.small_homes()[::3] + tuple(slow.rounds_of_ties())[::7]:
            values = [coloured(home, colours) for colours in range(home.many + 1)]
            for colours in (-1000, -999, -17, -3, -2, -1, 6, 11, 1000):
                told = colourings(home, colours)
                self.assertIsInstance(told, int)
                self.assertEqual(told, polynomial_at(values, colours))

    def test_many_standings_is_that_for_one_below_0(self):
        for home in slow.small_homes() + slow.bad_homes() + GREAT + (JUST_5000,):
            self.assertEqual(colourings(home, -1), (-1) ** home.many * many_standings(home))

    def test_homes_known_by_hand(self):
        for colours in (-1000, -7, -1, 0, 1, 2, 3, 9, 10, 11, 1000):
            falling = 1
            for k in range(10):
                falling *= colours - k
            self.assertEqual(colourings(ALL_TEN, colours), falling)
            self.assertEqual(colourings(Home(10, ()), colours), colours ** 10)
            self.assertEqual(colourings(Home(1, ()), colours), colours)
            for many in range(3, 11):
                told = (colours - 1) ** many + (-1) ** many * (colours - 1)
                self.assertEqual(colourings(round_of(many), colours), told)

    def test_arrows_may_point_any_way(self):
        for home in slow.small_homes():
            other = Home(home.many, tuple((v, u) for u, v in home.arrows))
            self.assertEqual(colourings(home, 3), colourings(other, 3))

    def test_no_number(self):
        for thing in NO_NUMBERS + (-1001, 1001, 10 ** 29, -10 ** 29):
            self.assertRaises(NoNumber, colourings, LINE, thing)
            self.assertRaises(NoNumber, colourings, ALL_TEN, thing)


class Within(unittest.TestCase):
    def test_against_all_lots(self):
        for home in slow.small_homes() + slow.bad_homes()[::4]:
            every = slow.standings(home)
            for standing in every:
                self.assertEqual(within(home, standing), sum(set(lot) <= set(standing) for lot in every))

    def test_some(self):
        self.assertEqual(within(Home(10, ()), ()), 1)
        self.assertEqual(within(LINE, ((0, 1), (0, 2))), 3)
        self.assertEqual(within(JUST_5000, JUST_5000.arrows), 5000)
        self.assertEqual(within(JUST_5000, ()), 1)

    def test_errors_in_their_order(self):
        for thing in NO_STANDINGS:
            self.assertRaises(NoStanding, within, LINE, thing)
            self.assertRaises(NoStanding, index_of, LINE, thing)
        for home in GREAT:
            for thing in ([], None, 0, ((0, 0),), ((False, 2),), [(0, 2)], (home.arrows[1], home.arrows[0])):
                self.assertRaises(NoStanding, within, home, thing)
                self.assertRaises(NoStanding, index_of, home, thing)
            for standing in ((), home.arrows):
                for call in (within, index_of):
                    with self.assertRaises(TooMany) as caught:
                        call(home, standing)
                    self.assertEqual(caught.exception.most, 5000)


class Indexes(unittest.TestCase):
    def test_against_all_lots(self):
        for home in slow.small_homes() + slow.bad_homes():
            every = slow.standings(home)
            for index, standing in enumerate(every):
                self.assertEqual(standing_at(home, index), standing)
                self.assertEqual(index_of(home, standing), index)
            for index in (len(every), len(every) + 1, 10 ** 29):
                self.assertRaises(NoNumber, standing_at, home, index)

    def test_just_5000(self):
        for index in (0, 1, 777, 4998, 4999):
            self.assertEqual(index_of(JUST_5000, standing_at(JUST_5000, index)), index)
        self.assertRaises(NoNumber, standing_at, JUST_5000, 5000)

    def test_errors_in_their_order(self):
        for thing in NO_NUMBERS + (-1, -10 ** 29):
            for home in (LINE, Home(1, ())) + GREAT:
                self.assertRaises(NoNumber, standing_at, home, thing)
        for home in GREAT:
            for index in (0, 1, 5000, 10 ** 29):
                with self.assertRaises(TooMany) as caught:
                    standing_at(home, index)
                self.assertEqual(caught.exception.most, 5000)
        for index in (6, 7, 10 ** 29):
            self.assertRaises(NoNumber, standing_at, LINE, index)
