"""Point 6: making homes, lots and standings."""

import unittest
from itertools import combinations

from tests import slow
from turnedapart.errors import BadHome
from turnedapart.homes import Home, is_lot, is_standing

LINE = Home(3, ((0, 1), (1, 2), (0, 2)))


class Making(unittest.TestCase):
    def bad(self, part, many, arrows):
        with self.assertRaises(BadHome) as caught:
            Home(many, arrows)
        self.assertEqual(caught.exception.part, part)

    def test_attributes(self):
        home = Home(4, ((2, 1), (0, 3), (0, 1)))
        self.assertEqual((home.many, home.arrows), (4, ((0, 1), (0, 3), (2, 1))))
        self.assertEqual(Home(1, ()).arrows, ())

    def test_one_and_ten_things(self):
        self.assertEqual(Home(1, ()).many, 1)
        self.assertEqual(len(Home(10, tuple(combinations(range(10), 2))).arrows), 45)
        self.assertEqual(Home(10, ((9, 0),)).arrows, ((9, 0),))

    def test_many_is_wrong(self):
        for many in (0, -1, 11, 10 ** 29, -10 ** 29, True, False, None, "3", (3,), [3], {}, Home(1, ())):
            self.bad("many", many, ())
        for many in slow.ODD_VALUES:
            if many not in (1, 2) or many is True:
                self.bad("many", many, ())

    def test_many_comes_before_all(self):
        self.bad("many", 0, None)
        self.bad("many", 11, ((0, 0),))
        self.bad("many", True, ((0, 1), (1, 2), (2, 0)))

    def test_arrows_are_wrong(self):
        for arrows in slow.ODD_VALUES:
            if arrows not in ((), ((0, 1),)):
                self.bad("arrows", 9, arrows)

    def test_the_flags_among_arrows(self):
        for arrows in (((0, True),), ((False, 1),), ((True, False),), ((0, 1), (True, 2))):
            self.bad("arrows", 3, arrows)

    def test_things_beyond(self):
        for arrows in (((0, 3),), ((3, 0),), ((-1, 0),), ((0, -1),), ((0, 1), (1, 3))):
            self.bad("arrows", 3, arrows)
        self.bad("arrows", 1, ((0, 1),))
        self.bad("arrows", 10, ((0, 10),))

    def test_one_thing_twice_and_pairs_twice(self):
        self.bad("arrows", 3, ((1, 1),))
        self.bad("arrows", 3, ((0, 1), (0, 1)))
        self.bad("arrows", 3, ((0, 1), (1, 0)))
        self.bad("arrows", 4, ((2, 3), (0, 1), (3, 2)))

    def test_arrows_come_before_ring(self):
        self.bad("arrows", 3, ((0, 1), (1, 2), (2, 0), (0, 3)))
        self.bad("arrows", 3, ((0, 1), (1, 2), (2, 0), [0, 1]))
        self.bad("arrows", 3, ((0, 1), (1, 2), (2, 0), (0, 2)))

    def test_rings(self):
        self.bad("ring", 3, ((0, 1), (1, 2), (2, 0)))
        self.bad("ring", 4, ((0, 1), (1, 2), (2, 3), (3, 0)))
        self.bad("ring", 5, ((0, 1), (2, 4), (4, 3), (3, 2)))
        self.bad("ring", 10, tuple((k, (k + 3) % 10) for k in range(10)))
        self.bad("ring", 10, tuple((k, k + 1) for k in range(9)) + ((9, 1),))

    def test_all_tuples_of_three_things(self):
        pairs = [(u, v) for u in range(3) for v in range(3) if u != v]
        for size in range(4):
            for arrows in combinations(pairs, size):
                if len({frozenset(pair) for pair in arrows}) < size:
                    self.bad("arrows", 3, arrows)
                elif slow.rings(3, arrows):
                    self.bad("ring", 3, arrows)
                else:
                    self.assertEqual(Home(3, arrows).arrows, arrows)


class Equality(unittest.TestCase):
    def test_equal(self):
        self.assertTrue(Home(3, ((0, 1), (1, 2))) == Home(3, ((1, 2), (0, 1))))
        self.assertFalse(Home(3, ((0, 1), (1, 2))) != Home(3, ((1, 2), (0, 1))))

    def test_unlike(self):
        for other in (Home(4, ((0, 1),)), Home(3, ((1, 0),)), Home(3, ()), None, 3, (3, ((0, 1),)), "home"):
            self.assertFalse(Home(3, ((0, 1),)) == other)
            self.assertTrue(Home(3, ((0, 1),)) != other)


class Lots(unittest.TestCase):
    def test_all_of_small_homes(self):
        for home in slow.small_homes():
            every = slow.standings(home)
            for lot in slow.lots(home):
                self.assertIs(is_lot(home, lot), True)
                self.assertIs(is_standing(home, lot), lot in every)

    def test_odd_values(self):
        for thing in slow.ODD_VALUES:
            right = thing in ((), ((0, 1),)) and repr(thing) in ("()", "((0, 1),)")
            self.assertIs(is_lot(LINE, thing), right, repr(thing)[:50])
            self.assertIs(is_standing(LINE, thing), right, repr(thing)[:50])

    def test_not_ascending(self):
        for thing in (((1, 2), (0, 1)), ((0, 1), (0, 1)), ((0, 1), (1, 2), (0, 2)), ((0, 2), (0, 1))):
            self.assertIs(is_lot(LINE, thing), False)
            self.assertIs(is_standing(LINE, thing), False)

    def test_what_is_no_arrow(self):
        for thing in (((1, 0),), ((0, 1), (2, 1)), ((0, 1), [0, 2]), ((0, 1), "ab"), ((0, 1), (0, 3))):
            self.assertIs(is_lot(LINE, thing), False)
            self.assertIs(is_standing(LINE, thing), False)

    def test_flags_are_no_things(self):
        for thing in (((0, True),), ((False, 1),), ((0, 1), (True, 2))):
            self.assertIs(is_lot(LINE, thing), False)

    def test_lists_are_no_tuples(self):
        for thing in ([], [(0, 1)], ([0, 1],), {(0, 1): 1}):
            self.assertIs(is_lot(LINE, thing), False)
            self.assertIs(is_standing(LINE, thing), False)

    def test_a_lot_with_a_ring(self):
        self.assertIs(is_lot(LINE, ((0, 2),)), True)
        self.assertIs(is_standing(LINE, ((0, 2),)), False)
        self.assertIs(is_standing(LINE, LINE.arrows), True)
