"""Point 6: what is led how, rings, ways, orders, bare arrows, blocks and homes seen anew."""

import unittest
from itertools import permutations

from tests import slow
from turnedapart.errors import NoLot, NoOrder, NoStanding, NoThing
from turnedapart.homes import (Home, bare, blocks, from_order, is_standing, led, order, ring, seen_from,
                               turned_home, way)

LINE = Home(3, ((0, 1), (1, 2), (0, 2)))
RINGS = ((0, 2),)
NO_LOTS = [thing for thing in slow.ODD_VALUES if repr(thing) not in ("()", "((0, 1),)")]
NO_THINGS = (3, -1, 10 ** 29, -10 ** 29, True, False, None, "1", "", (1,), [1], {1: 1}, Home(1, ()),
             slow.nested(30, list), slow.nested(30, tuple), slow.nested(30, dict), "~" * 20000)
NO_ORDERS = (None, 0, True, "012", (), (0, 1), (0, 1, 2, 3), (0, 1, 1), (0, 1, 3), [0, 1, 2], (0, True, 2),
             (False, 1, 2), (0, 1, None), (0, 1, "2"), (0, 1, (2,)), (-1, 0, 1), {0: 0, 1: 1, 2: 2}, LINE,
             (0, 1, LINE), slow.nested(30, tuple), (0, 1, slow.nested(29, list)), (0, 1, 10 ** 29))


class Led(unittest.TestCase):
    def test_small_homes(self):
        for home in slow.small_homes():
            for lot in slow.lots(home):
                self.assertEqual(led(home, lot), slow.pairs_led(home, lot))

    def test_ascending_and_with_rings(self):
        self.assertEqual(led(LINE, ((0, 1),)), ((0, 2), (1, 0), (1, 2)))
        self.assertEqual(led(LINE, RINGS), ((0, 1), (1, 2), (2, 0)))

    def test_no_lot(self):
        for thing in NO_LOTS:
            self.assertRaises(NoLot, led, LINE, thing)


class Ring(unittest.TestCase):
    def test_small_homes(self):
        for home in slow.small_homes():
            for lot in slow.lots(home):
                found = slow.rings(home.many, slow.pairs_led(home, lot))
                self.assertEqual(ring(home, lot), found[0] if found else None)

    def test_the_shortest_comes_before_the_least(self):
        home = Home(7, ((0, 1), (1, 2), (2, 3), (0, 3), (4, 5), (5, 6), (4, 6)))
        self.assertEqual(ring(home, ((0, 3), (4, 6))), (4, 5, 6))
        self.assertEqual(ring(home, ((0, 3),)), (0, 1, 2, 3))

    def test_the_least_of_one_length(self):
        home = Home(6, ((5, 4), (4, 3), (5, 3), (2, 1), (1, 0), (2, 0)))
        self.assertEqual(ring(home, ((2, 0), (5, 3))), (0, 2, 1))
        both = Home(4, ((0, 1), (0, 2), (1, 3), (2, 3), (0, 3)))
        self.assertEqual(ring(both, ((0, 3),)), (0, 1, 3))
        far = Home(5, ((3, 1), (1, 4), (3, 0), (0, 4), (3, 2), (2, 4), (3, 4)))
        self.assertEqual(ring(far, ((3, 4),)), (0, 4, 3))

    def test_ten_things(self):
        home = Home(10, tuple((k, k + 1) for k in range(9)) + ((0, 9),))
        self.assertEqual(ring(home, ((0, 9),)), tuple(range(10)))
        self.assertIsNone(ring(home, ()))

    def test_no_lot(self):
        for thing in NO_LOTS:
            self.assertRaises(NoLot, ring, LINE, thing)


class Way(unittest.TestCase):
    def test_small_homes(self):
        for home in slow.small_homes():
            for lot in slow.lots(home)[::5]:
                for u, v in [(u, v) for u in range(home.many) for v in range(home.many)]:
                    found = slow.ways(home.many, lot, u, v)
                    self.assertEqual(way(home, lot, u, v), found[0] if found else None)

    def test_arrows_are_taken_as_in_the_home(self):
        self.assertEqual(way(LINE, ((0, 1), (1, 2)), 0, 2), (0, 1, 2))
        self.assertIsNone(way(LINE, ((0, 1), (1, 2)), 2, 0))
        self.assertEqual(way(LINE, LINE.arrows, 0, 2), (0, 2))

    def test_one_thing_alone(self):
        self.assertEqual(way(LINE, (), 1, 1), (1,))
        self.assertEqual(way(LINE, LINE.arrows, 2, 2), (2,))
        self.assertIsNone(way(LINE, (), 0, 1))

    def test_a_lot_need_be_no_standing(self):
        self.assertEqual(way(LINE, RINGS, 0, 2), (0, 2))

    def test_the_least_of_the_shortest(self):
        home = Home(6, ((0, 4), (4, 5), (0, 3), (3, 5), (0, 1), (1, 2), (2, 5)))
        self.assertEqual(way(home, home.arrows, 0, 5), (0, 3, 5))
        self.assertEqual(way(home, ((0, 1), (0, 4), (1, 2), (2, 5), (4, 5)), 0, 5), (0, 4, 5))
        late = Home(6, ((0, 1), (0, 2), (1, 4), (2, 3), (3, 5), (4, 5)))
        self.assertEqual(way(late, late.arrows, 0, 5), (0, 1, 4, 5))

    def test_errors_in_their_order(self):
        for thing in NO_LOTS:
            self.assertRaises(NoLot, way, LINE, thing, 0, 1)
        for thing in NO_THINGS:
            self.assertRaises(NoThing, way, LINE, (), thing, 1)
            self.assertRaises(NoThing, way, LINE, (), 1, thing)
            self.assertRaises(NoThing, way, LINE, (), thing, thing)
            self.assertRaises(NoLot, way, LINE, [], thing, thing)
            self.assertRaises(NoLot, way, LINE, ((1, 0),), 0, thing)


class Orders(unittest.TestCase):
    def test_there_and_back(self):
        for home in slow.small_homes():
            for standing in slow.standings(home):
                row = order(home, standing)
                self.assertEqual(row, slow.orders(home, standing)[0])
                self.assertEqual(from_order(home, row), standing)

    def test_all_orders(self):
        for home in slow.small_homes()[::4]:
            for row in permutations(range(home.many)):
                standing = from_order(home, row)
                self.assertIn(standing, slow.standings(home))
                self.assertIn(row, slow.orders(home, standing))

    def test_the_least(self):
        self.assertEqual(order(Home(4, ((3, 0),)), ()), (1, 2, 3, 0))
        self.assertEqual(order(Home(4, ()), ()), (0, 1, 2, 3))
        self.assertEqual(order(LINE, LINE.arrows), (2, 1, 0))
        self.assertEqual(from_order(LINE, (1, 0, 2)), ((0, 1),))

    def test_no_standing(self):
        for thing in NO_LOTS + [RINGS]:
            self.assertRaises(NoStanding, order, LINE, thing)

    def test_no_order(self):
        for thing in NO_ORDERS:
            self.assertRaises(NoOrder, from_order, LINE, thing)
        self.assertEqual(from_order(Home(1, ()), (0,)), ())
        self.assertRaises(NoOrder, from_order, Home(1, ()), (False,))


class Bare(unittest.TestCase):
    def test_small_homes(self):
        for home in slow.small_homes():
            for standing in slow.standings(home):
                self.assertEqual(bare(home, standing), slow.bare(home, standing))

    def test_arrows_as_in_the_home(self):
        self.assertEqual(bare(LINE, ()), ((0, 1), (1, 2)))
        self.assertEqual(bare(LINE, LINE.arrows), ((0, 1), (1, 2)))
        self.assertEqual(bare(LINE, ((0, 1),)), ((0, 1), (0, 2)))

    def test_a_long_way_round(self):
        home = Home(10, tuple((k, k + 1) for k in range(9)) + ((0, 9),))
        self.assertEqual(bare(home, ()), tuple((k, k + 1) for k in range(9)))
        self.assertEqual(bare(home, ((4, 5),)), home.arrows)

    def test_no_standing(self):
        for thing in NO_LOTS + [RINGS]:
            self.assertRaises(NoStanding, bare, LINE, thing)


class Blocks(unittest.TestCase):
    def test_small_homes(self):
        for home in slow.small_homes():
            self.assertEqual(blocks(home), slow.blocks(home))
        for seed in range(20):
            home = slow.random_home(6, seed)
            some = Home(6, home.arrows[seed % 3::2])
            self.assertEqual(blocks(home), slow.blocks(home))
            self.assertEqual(blocks(some), slow.blocks(some))

    def test_two_and_alone(self):
        self.assertEqual(blocks(Home(1, ())), ())
        self.assertEqual(blocks(Home(4, ())), ())
        self.assertEqual(blocks(Home(4, ((3, 1),))), ((1, 3),))
        self.assertEqual(blocks(Home(4, ((3, 1), (1, 0)))), ((0, 1), (1, 3)))

    def test_rounds_that_share_one_thing(self):
        home = Home(8, ((0, 1), (1, 2), (0, 2), (2, 3), (3, 4), (4, 5), (2, 5), (5, 6)))
        self.assertEqual(blocks(home), ((0, 1, 2), (2, 3, 4, 5), (5, 6)))

    def test_a_round_of_all(self):
        home = Home(10, tuple((k, k + 1) for k in range(9)) + ((0, 9),))
        self.assertEqual(blocks(home), (tuple(range(10)),))
        self.assertEqual(blocks(Home(10, home.arrows[1:])), home.arrows[1:])

    def test_two_rounds_with_a_tie_between(self):
        home = Home(6, ((0, 1), (1, 2), (0, 2), (2, 3), (3, 4), (4, 5), (3, 5)))
        self.assertEqual(blocks(home), ((0, 1, 2), (2, 3), (3, 4, 5)))


class SeenAnew(unittest.TestCase):
    def test_turned_homes(self):
        for home in slow.small_homes():
            for standing in slow.standings(home):
                turned = turned_home(home, standing)
                self.assertEqual((turned.many, turned.arrows), (home.many, slow.pairs_led(home, standing)))
                self.assertTrue(turned == Home(home.many, led(home, standing)))

    def test_seen_there_and_back(self):
        for place, home in enumerate(slow.small_homes()):
            for one, other in slow.some_pairs(slow.standings(home), place):
                turned = turned_home(home, one)
                seen = seen_from(home, one, other)
                self.assertTrue(is_standing(turned, seen))
                self.assertEqual(led(turned, seen), led(home, other))
                self.assertEqual(seen_from(turned, seen_from(home, one, ()), seen), other)

    def test_as_arrows_of_that_home(self):
        self.assertEqual(seen_from(LINE, ((0, 1),), ((0, 1), (0, 2))), ((0, 2),))
        self.assertEqual(seen_from(LINE, ((0, 1),), ()), ((1, 0),))
        self.assertEqual(seen_from(LINE, LINE.arrows, ()), ((1, 0), (2, 0), (2, 1)))
        self.assertEqual(seen_from(LINE, LINE.arrows, LINE.arrows), ())

    def test_no_standing(self):
        for thing in NO_LOTS + [RINGS]:
            self.assertRaises(NoStanding, turned_home, LINE, thing)
            self.assertRaises(NoStanding, seen_from, LINE, thing, ())
            self.assertRaises(NoStanding, seen_from, LINE, (), thing)
            self.assertRaises(NoStanding, seen_from, LINE, thing, thing)
