"""Point 10: bad parts and open hands of homes that are not spined."""

import unittest
from itertools import permutations, product

from tests import slow
from turnedapart.homes import Home, is_standing
from turnedapart.joints import joint
from turnedapart.spined import bad_part, is_bad_part, is_open_hands, is_spined, open_hands

ROW = Home(4, ((0, 1), (1, 2), (2, 3), (0, 3)))
ROUND = Home(4, ((0, 1), (2, 1), (2, 3), (0, 3)))
PART = ((0, 1, 2, 3), (0, 1, 2, 3))
CLASH = (((2, 1),), ((0, 3),))
# The round of ROUND, in which (0, 1) is bare unless 4 is there; 5 stands apart.
WIDER = Home(6, ROUND.arrows + ((0, 4), (4, 1)))


def big_homes():
    """Some homes of six to ten things that are not spined."""
    homes = [slow.random_home(6 + seed % 5, seed, (seed % 3 + 2) / 6) for seed in range(150)]
    return [home for home in homes if not is_spined(home)]


def pairs_of_parts(home):
    """All pairs of a part and a row of unlike things of it."""
    return [(part, row) for part in slow.parts(home) for size in range(len(part) + 1)
            for row in permutations(part, size)]


class BadPart(unittest.TestCase):
    def test_told_ones(self):
        for home in slow.bad_homes():
            told = bad_part(home)
            part, row = told
            self.assertIn(part, slow.parts(home))
            self.assertIn(row, slow.closed_rounds(home, part))
            self.assertIs(is_bad_part(home, told), True)
            self.assertEqual(bad_part(Home(home.many, home.arrows)), told)

    def test_none_in_spined_homes(self):
        for home in slow.small_homes() + tuple(slow.homes_of_size(4)):
            if slow.is_spined(home):
                self.assertIsNone(bad_part(home))

    def test_big_homes(self):
        homes = big_homes()
        self.assertGreater(len(homes), 60)
        for home in homes:
            self.assertIs(is_bad_part(home, bad_part(home)), True)
        across = Home(10, tuple(product(range(5), range(5, 10))))
        self.assertIs(is_bad_part(across, bad_part(across)), True)
        long = Home(10, tuple((k, k + 1) for k in range(5)) + ((0, 6), (6, 7), (7, 8), (8, 9), (9, 5)))
        self.assertEqual(bad_part(long)[0], tuple(range(10)))
        self.assertIs(is_bad_part(long, bad_part(long)), True)


class IsBadPart(unittest.TestCase):
    def test_all_pairs_of_bad_homes(self):
        for home in slow.bad_homes()[::3]:
            for part, row in pairs_of_parts(home):
                right = row in slow.closed_rounds(home, part) if len(row) > 2 else False
                self.assertIs(is_bad_part(home, (part, row)), right)

    def test_all_pairs_of_spined_homes(self):
        for home in slow.small_homes():
            if slow.is_spined(home):
                for pair in pairs_of_parts(home)[::3]:
                    self.assertIs(is_bad_part(home, pair), False)

    def test_the_part_may_be_greater_than_the_round(self):
        self.assertIs(is_bad_part(WIDER, PART), True)
        self.assertIs(is_bad_part(WIDER, ((0, 1, 2, 3, 5), (0, 1, 2, 3))), True)
        self.assertIs(is_bad_part(WIDER, ((0, 1, 2, 3, 4), (0, 1, 2, 3))), False)
        self.assertIs(is_bad_part(WIDER, ((0, 1, 2, 3, 4), (0, 4, 1, 2, 3))), True)
        self.assertIs(is_bad_part(WIDER, ((0, 1, 2, 3), (0, 4, 1, 2, 3))), False)
        self.assertIs(is_bad_part(WIDER, ((0, 1, 4), (0, 4, 1))), False)

    def test_rounds_from_each_thing_on_both_ways_about(self):
        for k in range(4):
            row = PART[1][k:] + PART[1][:k]
            self.assertIs(is_bad_part(ROUND, (PART[0], row)), True)
            self.assertIs(is_bad_part(ROUND, (PART[0], row[::-1])), True)

    def test_changed_ones(self):
        part, row = PART
        for thing in (list(PART), (list(part), row), (part, list(row)), PART + (row,), (part,), (row, row, row),
                      ((0, 1, 2), row), ((0, 1, 3, 2), row), ((0, 1, 2, 3, 3), row), ((0, 0, 1, 2, 3), row),
                      ((0, 1, 2, 3, 4), row), ((-1, 0, 1, 2, 3), row), ((False, 1, 2, 3), row),
                      ((0, True, 2, 3), row), (part, (False, 1, 2, 3)), (part, (0, True, 2, 3)), (part, (0, 1, 2)),
                      (part, (0, 2, 1, 3)), (part, (0, 1, 2, 3, 0)), (part, (0, 1, 2, 1)), (part, (0, 1)),
                      (part, (0,)), (part, ()), (part, (0, 1, 2, 7)), (part, None), (None, row), (None, None)):
            self.assertIs(is_bad_part(ROUND, thing), False, thing)

    def test_values_of_every_kind(self):
        for thing in slow.ODD_VALUES:
            for home in (ROUND, ROW):
                self.assertIs(is_bad_part(home, thing), False)
                self.assertIs(is_bad_part(home, (thing, PART[1])), False)
                self.assertIs(is_bad_part(home, (PART[0], thing)), False)
        self.assertIs(is_bad_part(ROW, PART), False)
        self.assertIs(is_bad_part(ROW, None), False)


class OpenHands(unittest.TestCase):
    def test_told_ones(self):
        for home in slow.bad_homes():
            told = open_hands(home)
            self.assertEqual((type(told), len(told)), (tuple, 2))
            for standing in told:
                self.assertIn(standing, slow.standings(home))
            self.assertIsNone(slow.one_least(slow.joints(home, told)))
            self.assertIs(is_open_hands(home, told), True)
            self.assertEqual(open_hands(Home(home.many, home.arrows)), told)

    def test_none_in_spined_homes(self):
        for home in slow.small_homes() + tuple(slow.homes_of_size(4)):
            if slow.is_spined(home):
                self.assertIsNone(open_hands(home))

    def test_big_homes(self):
        for home in big_homes():
            told = open_hands(home)
            self.assertTrue(all(is_standing(home, standing) for standing in told))
            self.assertIsNone(joint(home, told))
            self.assertIs(is_open_hands(home, told), True)

    def test_all_pairs_of_standings(self):
        for place, home in enumerate(slow.small_homes() + slow.bad_homes()):
            for pair in slow.some_pairs(slow.standings(home), place, 40) + slow.quarrelling(home, place, 10):
                open_ones = slow.one_least(slow.joints(home, pair)) is None
                self.assertIs(is_open_hands(home, pair), open_ones)
                self.assertIs(is_open_hands(home, pair[::-1]), open_ones)

    def test_changed_ones(self):
        one, other = CLASH
        self.assertIs(is_open_hands(ROUND, CLASH), True)
        for thing in (list(CLASH), CLASH + ((),), CLASH + (one,), (one,), (), (one, one), (one, ()), (one, list(other)),
                      (one, ([0, 3],)), (one, ((False, 3),)), (((2, True),), other), (one, ((3, 0),)), (one, None),
                      (one, ((0, 1), (0, 3), (2, 3))), (ROUND.arrows, other), (((0, 1), (2, 3)), other)):
            self.assertIs(is_open_hands(ROUND, thing), False, thing)

    def test_values_of_every_kind(self):
        for thing in slow.ODD_VALUES:
            for home in (ROUND, ROW):
                self.assertIs(is_open_hands(home, thing), False)
                self.assertIs(is_open_hands(home, (thing, CLASH[1])), False)
                self.assertIs(is_open_hands(home, (CLASH[0], thing)), False)
        self.assertIs(is_open_hands(ROW, CLASH), False)
        self.assertIs(is_open_hands(ROW, None), False)
