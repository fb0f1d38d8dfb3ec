"""Point 12: mends, the fewest ties and the fewest things less."""

import unittest
from itertools import combinations, product

from tests import slow
from turnedapart.errors import NoThings, TooMany
from turnedapart.homes import Home
from turnedapart.mending import fewest_things, fewest_ties, is_mend, mend, without
from turnedapart.spined import is_spined

ROUND = Home(4, ((0, 1), (2, 1), (2, 3), (0, 3)))
# The round of ROUND with a fifth thing that no arrow is at.
WIDER = Home(5, ROUND.arrows)
SIX_ROUND = Home(6, ((0, 1), (2, 1), (2, 3), (4, 3), (4, 5), (0, 5)))
ACROSS = Home(6, tuple(product(range(3), range(3, 6))))


def tuples_of_pairs(home, size):
    """All ascending tuples of so many pairs of unlike things that aren't tied, each two at most once."""
    tied = set(home.arrows) | {(v, u) for u, v in home.arrows}
    free = [pair for pair in combinations(range(home.many), 2) if pair not in tied]
    for some in combinations(free, size):
        for ways in product((False, True), repeat=size):
            yield tuple(sorted((v, u) if way else (u, v) for (u, v), way in zip(some, ways)))


def mends(home, size):
    """All mends of so many pairs."""
    found = []
    for ties in tuples_of_pairs(home, size):
        if not slow.rings(home.many, home.arrows + ties) and slow.is_spined(Home(home.many, home.arrows + ties)):
            found.append(ties)
    return found


class IsMend(unittest.TestCase):
    def test_all_tuples_of_small_homes(self):
        for home in (slow.small_homes() + slow.bad_homes())[::4]:
            for size in range(4):
                right = mends(home, size)
                for ties in tuples_of_pairs(home, size):
                    self.assertIs(is_mend(home, ties), ties in right)

    def test_all_pairs_of_pairs(self):
        for home in (ROUND, Home(4, ()), slow.bad_homes()[3], slow.bad_homes()[8]):
            pairs = [(u, v) for u in range(home.many) for v in range(home.many)]
            for size in range(3):
                right = mends(home, size)
                for ties in product(pairs, repeat=size):
                    self.assertIs(is_mend(home, ties), ties in right)

    def test_none_at_all(self):
        for home in slow.small_homes() + slow.bad_homes():
            self.assertIs(is_mend(home, ()), slow.is_spined(home))

    def test_ten_things(self):
        home = Home(10, tuple((k, k + 1) for k in range(0, 10, 2)) + tuple((k + 2, k + 1) for k in range(0, 8, 2)))
        closed = Home(10, home.arrows + ((0, 9),))
        self.assertIs(is_mend(home, ()), True)
        self.assertIs(is_mend(closed, ()), False)
        tied = set(closed.arrows) | {(v, u) for u, v in closed.arrows}
        rest = tuple(pair for pair in combinations(range(0, 10, 2), 2) if pair not in tied)
        ahead = tuple((u, v) for u in range(0, 10, 2) for v in range(1, 10, 2) if (u, v) not in tied)
        behind = tuple(combinations(range(1, 10, 2), 2))
        self.assertIs(is_mend(closed, tuple(sorted(rest + ahead + behind))), True)

    def wrong(self, home, thing):
        self.assertIs(is_mend(home, thing), False, thing)

    def test_wrong_ones(self):
        self.assertIs(is_mend(ROUND, ((0, 2),)), True)
        self.assertIs(is_mend(ROUND, ((0, 2), (1, 3))), True)
        self.assertIs(is_mend(ROUND, ((1, 3), (2, 0))), True)
        for thing in (((0, 1),), ((1, 0),), ((0, 1), (0, 2)), ((0, 2), (2, 0)), ((0, 2), (0, 2)), ((1, 3), (0, 2)),
                      [(0, 2)], ([0, 2],), ((False, 2),), ((0, 2), (True, 3)), ((0, 2), (1, 3), (3, 1)), ((0, 4),),
                      ((-1, 0),), ((0, 0), (0, 2)), ((0, 2, 1),), ((0,),), (0, 2), ((0, 2), None), None):
            self.wrong(ROUND, thing)
        self.wrong(WIDER, ((0, 4),))

    def test_pairs_that_make_a_ring(self):
        home = Home(4, ((0, 1), (1, 2), (2, 3)))
        self.assertIs(is_mend(home, ((0, 2),)), True)
        self.wrong(home, ((2, 0),))
        self.wrong(home, ((3, 0),))
        self.wrong(Home(3, ()), ((0, 1), (1, 2), (2, 0)))
        self.assertIs(is_mend(Home(3, ()), ((0, 1), (0, 2), (1, 2))), True)

    def test_pairs_after_which_the_home_is_not_spined(self):
        path = Home(4, ((0, 1), (2, 1), (2, 3)))
        self.wrong(path, ((0, 3),))
        self.assertIs(is_mend(path, ((0, 3), (1, 3))), True)
        self.assertIs(is_mend(path, ((3, 0),)), True)

    def test_values_of_every_kind(self):
        for thing in slow.ODD_VALUES:
            self.assertIs(is_mend(Home(3, ((0, 2),)), thing), repr(thing) in ("()", "((0, 1),)"), thing)
            self.wrong(ROUND, thing)
            self.wrong(ROUND, ((0, 2), thing))


class Mend(unittest.TestCase):
    def test_against_all_mends(self):
        for home in slow.small_homes() + slow.bad_homes():
            size = min(size for size in range(11) if mends(home, size))
            self.assertEqual(fewest_ties(home), size)
            told = mend(home)
            self.assertIn(told, mends(home, size))
            self.assertIs(is_mend(home, told), True)
            self.assertEqual(mend(Home(home.many, home.arrows)), told)

    def test_six_things(self):
        homes = [slow.random_home(6, seed, (seed % 4 + 2) / 7) for seed in range(60)] + [ACROSS, SIX_ROUND]
        for home in homes:
            told = mend(home)
            self.assertIs(is_mend(home, told), True)
            self.assertEqual(fewest_ties(home), len(told))
            for size in range(len(told)):
                self.assertFalse([ties for ties in tuples_of_pairs(home, size) if is_mend(home, ties)])

    def test_some(self):
        self.assertEqual((fewest_ties(Home(6, ())), mend(Home(6, ()))), (0, ()))
        self.assertEqual(fewest_ties(ROUND), 1)
        self.assertIn(mend(ROUND), [((0, 2),), ((2, 0),), ((1, 3),), ((3, 1),)])
        self.assertEqual(fewest_ties(WIDER), 1)
        self.assertEqual(fewest_ties(SIX_ROUND), 1)
        self.assertEqual(fewest_ties(ACROSS), 3)

    def test_seven_things_are_too_many(self):
        for many in (7, 8, 9, 10):
            for call in (fewest_ties, mend):
                with self.assertRaises(TooMany) as caught:
                    call(Home(many, ()))
                self.assertEqual(caught.exception.most, 6)


class Without(unittest.TestCase):
    def test_all_tuples_of_things(self):
        for home in slow.small_homes():
            for things in slow.parts(home)[:-1]:
                left = [thing for thing in range(home.many) if thing not in things]
                other = without(home, things)
                self.assertEqual((other.many, other.arrows), (len(left), slow.only_these(home, left).arrows))

    def test_numbered_anew(self):
        home = Home(6, ((5, 0), (3, 1), (1, 5), (4, 2)))
        self.assertTrue(without(home, ()) == home)
        self.assertEqual(without(home, (0,)).arrows, ((0, 4), (2, 0), (3, 1)))
        self.assertEqual(without(home, (0, 2)).arrows, ((0, 3), (1, 0)))
        self.assertEqual(without(home, (0, 1, 2, 3, 4)).many, 1)
        self.assertEqual(home.arrows, ((1, 5), (3, 1), (4, 2), (5, 0)))

    def test_no_things(self):
        home = Home(3, ((0, 1), (1, 2)))
        for thing in ((0, 1, 2), (0, 0), (1, 1), (1, 0), (2, 1, 0), (3,), (0, 3), (-1,), (False,), (0, True), (True,),
                      [0], [], {0: 0}, ((0,),), (None,), ("0",), None, 0, "", "0", (0, 1, 2, 3)):
            self.assertRaises(NoThings, without, home, thing)
        self.assertRaises(NoThings, without, Home(1, ()), (0,))
        self.assertEqual(without(Home(1, ()), ()).many, 1)
        for thing in slow.ODD_VALUES:
            if repr(thing) not in ("()", "(0,)", "(0, 1, 2)"):
                self.assertRaises(NoThings, without, home, thing)


class FewestThings(unittest.TestCase):
    def test_against_all_tuples(self):
        for home in slow.small_homes() + slow.bad_homes():
            rows = [things for things in slow.parts(home)[:-1] if slow.is_spined(without(home, things))]
            self.assertEqual(fewest_things(home), rows[0])

    def test_greater_homes(self):
        for seed in range(12):
            home = slow.random_home(6 + seed % 3, seed, 0.5)
            rows = [things for things in slow.parts(home)[:-1] if is_spined(without(home, things))]
            self.assertEqual(fewest_things(home), rows[0])

    def test_some(self):
        self.assertEqual(fewest_things(Home(1, ())), ())
        self.assertEqual(fewest_things(ROUND), (0,))
        self.assertEqual(fewest_things(Home(6, ((2, 3), (4, 3), (4, 5), (2, 5)))), (2,))
        two = Home(8, ROUND.arrows + ((4, 5), (6, 5), (6, 7), (4, 7)))
        self.assertEqual(fewest_things(two), (0, 4))

    def test_ten_things(self):
        home = Home(10, tuple(product(range(5), range(5, 10))))
        self.assertEqual(fewest_things(home), (0, 1, 2, 3))
        self.assertEqual(fewest_things(Home(10, tuple(combinations(range(10), 2)))), ())
        self.assertEqual(fewest_things(Home(10, ())), ())
