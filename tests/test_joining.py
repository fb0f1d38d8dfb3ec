"""Point 11: joins and meets in spined homes, lots that are closed twice, and homes that distribute."""

import unittest
from itertools import combinations, product

from tests import slow
from turnedapart.errors import NoLot, NoStanding, NotSpined
from turnedapart.homes import Home, blocks, from_order, is_standing, turned_home
from turnedapart.joining import distributes, is_closed_twice, join, meet

ROW = Home(4, ((0, 1), (1, 2), (2, 3), (0, 3)))
ROUND = Home(4, ((0, 1), (2, 1), (2, 3), (0, 3)))
LINE = Home(3, ((0, 1), (1, 2), (0, 2)))
NO_LOTS = [thing for thing in slow.ODD_VALUES if repr(thing) not in ("()", "((0, 1),)")]
NO_STANDINGS = NO_LOTS + [((0, 2),), ((0, 1), (1, 2))]


def spined_homes():
    homes = slow.small_homes() + tuple(slow.rounds_of_ties()) + tuple(slow.homes_of_size(4)[::11])
    return [home for home in homes if slow.is_spined(home)]


def pairs_at_spined_homes():
    for place, home in enumerate(spined_homes()):
        for one, other in slow.some_pairs(slow.standings(home), place, 40):
            yield home, one, other


class JoinAndMeet(unittest.TestCase):
    def test_join_against_all_standings(self):
        for home, one, other in pairs_at_spined_homes():
            above = [lot for lot in slow.standings(home) if set(one) | set(other) <= set(lot)]
            least = slow.one_least(above)
            self.assertIsNotNone(least)
            self.assertEqual(join(home, one, other), least)

    def test_meet_against_all_standings(self):
        for home, one, other in pairs_at_spined_homes():
            below = [lot for lot in slow.standings(home) if set(lot) <= set(one) & set(other)]
            greatest = slow.one_greatest(below)
            self.assertIsNotNone(greatest)
            self.assertEqual(meet(home, one, other), greatest)

    def test_more_and_less_than_both_together(self):
        self.assertEqual(join(LINE, ((0, 1),), ((1, 2),)), ((0, 1), (0, 2), (1, 2)))
        self.assertEqual(meet(LINE, ((0, 1), (0, 2)), ((0, 2), (1, 2))), ())
        self.assertEqual(join(ROW, ((0, 1),), ((1, 2),)), ((0, 1), (1, 2)))
        self.assertEqual(meet(ROW, ((0, 1), (1, 2)), ((0, 1), (2, 3))), ((0, 1),))
        self.assertEqual(join(Home(1, ()), (), ()), ())

    def test_all_standings_seen_from_all_arrows_turned(self):
        for home, one, other in pairs_at_spined_homes():
            back = turned_home(home, home.arrows)
            lacks = [tuple(sorted((v, u) for u, v in home.arrows if (u, v) not in lot)) for lot in (one, other)]
            self.assertTrue(all(is_standing(back, lot) for lot in lacks))
            met = meet(home, one, other)
            lacked = tuple(sorted((v, u) for u, v in home.arrows if (u, v) not in met))
            self.assertEqual(join(back, *lacks), lacked)

    def test_ten_things(self):
        home = Home(10, tuple(combinations(range(10), 2)))
        one, other = (from_order(home, row) for row in ((1, 0) + tuple(range(2, 10)), tuple(range(9)) + (9,)))
        self.assertEqual(join(home, one, other), ((0, 1),))
        self.assertEqual(join(home, home.arrows, one), home.arrows)
        self.assertEqual(meet(home, home.arrows, one), one)
        self.assertEqual(meet(home, one, ()), ())

    def test_no_standing_comes_before_not_spined(self):
        for call in (join, meet):
            for thing in NO_STANDINGS:
                self.assertRaises(NoStanding, call, LINE, thing, ())
                self.assertRaises(NoStanding, call, LINE, (), thing)
                self.assertRaises(NoStanding, call, LINE, thing, thing)
            for thing in NO_LOTS + [((0, 3), (2, 1)), ((0, 1), (2, 3))]:
                self.assertRaises(NoStanding, call, ROUND, thing, ())
                self.assertRaises(NoStanding, call, ROUND, (), thing)

    def test_not_spined(self):
        for home in slow.bad_homes():
            for call in (join, meet):
                for standing in slow.standings(home)[:3]:
                    self.assertRaises(NotSpined, call, home, standing, ())
                    self.assertRaises(NotSpined, call, home, (), standing)


def closed_twice(home, lot):
    """What DOC.md says, for each arrow and each other way."""
    for u, v in home.arrows:
        for way in slow.ways(home.many, home.arrows, u, v):
            along = [step in lot for step in zip(way, way[1:])]
            if len(way) > 2 and (all(along) and (u, v) not in lot or not any(along) and (u, v) in lot):
                return False
    return True


class ClosedTwice(unittest.TestCase):
    def test_all_lots(self):
        for home in slow.small_homes() + slow.bad_homes()[::3]:
            for lot in slow.lots(home):
                self.assertIs(is_closed_twice(home, lot), closed_twice(home, lot), (home.arrows, lot))

    def test_standings_and_in_spined_homes_nothing_else(self):
        for home in slow.small_homes() + slow.bad_homes():
            closed = [lot for lot in slow.lots(home) if is_closed_twice(home, lot)]
            self.assertLessEqual(set(slow.standings(home)), set(closed))
            if slow.is_spined(home):
                self.assertEqual(sorted(closed), list(slow.standings(home)))

    def test_a_home_that_is_not_spined(self):
        self.assertIs(is_closed_twice(ROUND, ((0, 3), (2, 1))), True)
        self.assertIs(is_closed_twice(LINE, ((0, 2),)), False)
        self.assertIs(is_closed_twice(LINE, ((0, 1), (1, 2))), False)
        self.assertIs(is_closed_twice(LINE, ((0, 1), (0, 2))), True)

    def test_a_long_way_alone_is_not_enough(self):
        self.assertIs(is_closed_twice(ROW, ((0, 1), (1, 2), (2, 3))), False)
        self.assertIs(is_closed_twice(ROW, ((0, 3),)), False)
        self.assertIs(is_closed_twice(ROW, ((0, 3), (1, 2))), True)
        self.assertIs(is_closed_twice(ROW, ((0, 1), (2, 3))), True)

    def test_no_lot(self):
        for home in (LINE, ROUND):
            for thing in NO_LOTS:
                self.assertRaises(NoLot, is_closed_twice, home, thing)


def distributes_for_all(home):
    """Whether it does for all threes of standings, by the least and the greatest ones."""
    every = slow.standings(home)
    joined, met = {}, {}
    for one, other in product(every, repeat=2):
        joined[one, other] = slow.one_least([lot for lot in every if set(one) | set(other) <= set(lot)])
        met[one, other] = slow.one_greatest([lot for lot in every if set(lot) <= set(one) & set(other)])
    return all(met[a, joined[b, c]] == joined[met[a, b], met[a, c]] for a, b, c in product(every, repeat=3))


class Distributes(unittest.TestCase):
    def test_all_threes_of_standings(self):
        rounds = [home for home in slow.rounds_of_ties() if home.many < 5]
        for home in slow.small_homes()[::2] + tuple(rounds) + (ROW, Home(5, ((0, 1), (2, 1), (2, 3), (4, 3)))):
            if slow.is_spined(home) and len(slow.standings(home)) <= 24:
                self.assertIs(distributes(home), distributes_for_all(home), home.arrows)

    def test_exactly_if_no_closed_round_of_ties(self):
        for home in slow.small_homes() + tuple(slow.homes_of_size(4)):
            if slow.is_spined(home):
                ties = set(home.arrows) | {(v, u) for u, v in home.arrows}
                rounds = [row for row in slow.rings(home.many, ties) if len(row) > 2]
                self.assertIs(distributes(home), not rounds)

    def test_some(self):
        self.assertIs(distributes(Home(1, ())), True)
        self.assertIs(distributes(Home(10, ())), True)
        self.assertIs(distributes(Home(10, tuple((k, k + 1) for k in range(9)))), True)
        self.assertIs(distributes(Home(10, tuple(combinations(range(10), 2)))), False)
        self.assertIs(distributes(LINE), False)
        self.assertIs(distributes(ROW), False)
        self.assertEqual(blocks(ROW), ((0, 1, 2, 3),))

    def test_not_spined(self):
        for home in slow.bad_homes() + (ROUND,):
            self.assertRaises(NotSpined, distributes, home)
