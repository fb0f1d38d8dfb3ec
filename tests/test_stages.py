"""Point 17: stages from one standing to another."""

import unittest
from functools import lru_cache
from itertools import combinations
from random import Random

from tests import slow
from turnedapart.errors import NoStanding, TooMany
from turnedapart.homes import Home, from_order
from turnedapart.stages import is_stages, stages
from turnedapart.turns import steps

LINE = Home(3, ((0, 1), (1, 2), (0, 2)))
ALL_TEN = Home(10, tuple(combinations(range(10), 2)))
STAR = Home(10, tuple((0, k) for k in range(1, 10)))
NO_STANDINGS = [thing for thing in slow.ODD_VALUES if repr(thing) not in ("()", "((0, 1),)")] + [((0, 2),)]


@lru_cache(maxsize=None)
def partings(many):
    """All ways to part so many places into an ordered list of tuples."""
    if not many:
        return [[]]
    found = []
    for size in range(1, many + 1):
        for first in combinations(range(many), size):
            rest = [k for k in range(many) if k not in first]
            found += [[first] + [tuple(rest[k] for k in some) for some in row] for row in partings(many - size)]
    return found


def is_right(home, one, row):
    """Whether however many arrows of a tuple are turned behind those ahead of it, there is a standing."""
    every, ahead = set(slow.standings(home)), set(one)
    for stage in row:
        for size in range(len(stage) + 1):
            if any(tuple(sorted(ahead ^ set(some))) not in every for some in combinations(stage, size)):
                return False
        ahead ^= set(stage)
    return True


def all_stages(home, one, other):
    apart = sorted(set(one) ^ set(other))
    rows = [[tuple(apart[k] for k in stage) for stage in row] for row in partings(len(apart))]
    return rows, [row for row in rows if is_right(home, one, row)]


def pairs_apart(most, count):
    """Pairs of standings that are at most so many arrows apart, so many of each home."""
    for place, home in enumerate(slow.small_homes() + slow.bad_homes()[::6]):
        every = slow.some_pairs(slow.standings(home), place, count * 4)
        for one, other in [pair for pair in every if len(set(pair[0]) ^ set(pair[1])) <= most][:count]:
            yield home, one, other


class Stages(unittest.TestCase):
    def test_against_all_partings(self):
        sizes = set()
        for home, one, other in pairs_apart(4, 6):
            rows, right = all_stages(home, one, other)
            told = stages(home, one, other)
            self.assertIn(told, right)
            self.assertEqual(len(told), min(len(row) for row in right))
            sizes.add((len(told), sum(map(len, told))))
        self.assertLessEqual({(0, 0), (1, 1), (1, 2), (2, 2), (2, 3), (3, 3), (2, 4), (3, 4)}, sizes)

    def test_five_and_six_arrows(self):
        for seed in range(5):
            home = slow.random_home(5, seed, 0.8)
            every = slow.standings(home)
            pairs = [pair for pair in combinations(every, 2) if len(set(pair[0]) ^ set(pair[1])) in (5, 6)]
            for one, other in Random(seed).sample(pairs, min(2, len(pairs))):
                told = stages(home, one, other)
                self.assertEqual(len(told), min(len(row) for row in all_stages(home, one, other)[1]))
                self.assertTrue(is_right(home, one, told))

    def test_eight_arrows(self):
        for seed in range(8):
            home = slow.random_home(5 + seed % 3, seed, 0.9)
            source = Random(seed)
            for _ in range(40):
                one, other = (from_order(home, tuple(source.sample(range(home.many), home.many))) for _ in range(2))
                if len(set(one) ^ set(other)) == 8:
                    told = stages(home, one, other)
                    self.assertIs(is_stages(home, one, other, told), True)
                    self.assertEqual(told, stages(home, one, other))
                    self.assertLessEqual(len(told), 8)

    def test_some(self):
        self.assertEqual(stages(LINE, (), ((0, 1),)), [((0, 1),)])
        self.assertEqual(len(stages(LINE, (), LINE.arrows)), 3)
        two = Home(4, ((0, 1), (2, 3)))
        self.assertEqual(stages(two, (), two.arrows), [((0, 1), (2, 3))])
        self.assertEqual(stages(two, ((0, 1),), ((2, 3),)), [((0, 1), (2, 3))])
        eight = STAR.arrows[:8]
        self.assertEqual(stages(STAR, (), eight), [eight])
        self.assertEqual(stages(STAR, eight, ()), [eight])
        self.assertEqual(stages(ALL_TEN, (), ((0, 1), (2, 3), (4, 5), (6, 7))), [((0, 1), (2, 3), (4, 5), (6, 7))])

    def test_like_standings(self):
        for home in (LINE, ALL_TEN, Home(1, ())):
            for standing in ((), home.arrows):
                self.assertEqual(stages(home, standing, standing), [])
                self.assertIs(is_stages(home, standing, standing, []), True)
                for thing in ((), [()], None, [[]], ((),)):
                    self.assertIs(is_stages(home, standing, standing, thing), False)

    def test_ascending_and_none_empty(self):
        for home, one, other in pairs_apart(8, 4):
            told = stages(home, one, other)
            self.assertIs(type(told), list)
            for stage in told:
                self.assertIs(type(stage), tuple)
                self.assertEqual(list(stage), sorted(stage))
                self.assertTrue(stage)
            self.assertEqual(sorted(arrow for stage in told for arrow in stage), sorted(set(one) ^ set(other)))

    def test_each_list_is_new(self):
        told = stages(LINE, (), ((0, 1),))
        told.append(None)
        self.assertEqual(stages(LINE, (), ((0, 1),)), [((0, 1),)])

    def test_errors_in_their_order(self):
        nine = STAR.arrows
        for one, other in (((), nine), (nine, ())):
            with self.assertRaises(TooMany) as caught:
                stages(STAR, one, other)
            self.assertEqual(caught.exception.most, 8)
        self.assertRaises(TooMany, stages, ALL_TEN, (), ALL_TEN.arrows)
        self.assertEqual(len(stages(ALL_TEN, ALL_TEN.arrows[8:], ALL_TEN.arrows)), 8)
        self.assertRaises(TooMany, stages, ALL_TEN, ALL_TEN.arrows[9:], ALL_TEN.arrows)
        for thing in NO_STANDINGS:
            self.assertRaises(NoStanding, stages, LINE, thing, ())
            self.assertRaises(NoStanding, stages, LINE, (), thing)
            self.assertRaises(NoStanding, is_stages, LINE, thing, (), [])
            self.assertRaises(NoStanding, is_stages, LINE, (), thing, None)
        self.assertRaises(NoStanding, stages, STAR, nine, None)
        self.assertRaises(NoStanding, stages, STAR, None, nine)


def changed(row):
    """Lists with arrows moved, left out, twice, exchanged, tuples joined, parted, empty, and of other kinds."""
    for k, stage in enumerate(row):
        yield row[:k] + row[k + 1:]
        yield row[:k] + [stage] + row[k:]
        yield row[:k] + [()] + row[k:]
        yield row[:k] + [list(stage)] + row[k + 1:]
        yield row[:k] + [stage[::-1]] + row[k + 1:]
        yield row[:k] + [stage + stage[:1]] + row[k + 1:]
        yield row[:k] + [stage[1:]] + row[k + 1:]
        yield row[:k] + [tuple(arrow[::-1] for arrow in stage)] + row[k + 1:]
        yield row[:k] + [tuple(list(arrow) for arrow in stage)] + row[k + 1:]
        yield row[:k] + row[k + 1:k + 2] + [stage] + row[k + 2:]
        for other in range(len(row)):
            if other != k:
                moved = [tuple(sorted(some + stage[:1])) if place == other else some for place, some in enumerate(row)]
                yield moved[:k] + [stage[1:]] + moved[k + 1:]
        for at in range(1, len(stage)):
            yield row[:k] + [stage[:at], stage[at:]] + row[k + 1:]
            yield row[:k] + [stage[at:], stage[:at]] + row[k + 1:]
        if k:
            yield row[:k - 1] + [tuple(sorted(row[k - 1] + stage))] + row[k + 1:]
    yield tuple(row)
    yield row + [()]
    yield row + [None]


class IsStages(unittest.TestCase):
    def test_all_partings(self):
        for home, one, other in pairs_apart(4, 5):
            rows, right = all_stages(home, one, other)
            for row in rows:
                self.assertIs(is_stages(home, one, other, row), row in right)

    def test_changed_ones(self):
        for home, one, other in pairs_apart(6, 4):
            apart = set(one) ^ set(other)
            for row in (stages(home, one, other), [(arrow,) for arrow in steps(home, one, other)]):
                self.assertIs(is_stages(home, one, other, row), True)
                for thing in changed(row):
                    right = isinstance(thing, list) and all(type(stage) is tuple and stage for stage in thing)
                    right = right and all(type(arrow) is tuple for stage in thing for arrow in stage)
                    right = right and sorted(sum(thing, ())) == sorted(apart)
                    right = right and all(list(stage) == sorted(stage) for stage in thing)
                    self.assertIs(is_stages(home, one, other, thing), bool(right and is_right(home, one, thing)), thing)

    def test_single_turns_of_many_arrows(self):
        for home in (ALL_TEN, STAR):
            row = [(arrow,) for arrow in steps(home, (), home.arrows)]
            self.assertIs(is_stages(home, (), home.arrows, row), True)
            self.assertIs(is_stages(home, home.arrows, (), row[::-1]), True)
            self.assertIs(is_stages(home, (), home.arrows, row[1:]), False)
            self.assertIs(is_stages(home, (), home.arrows, row + row[:1]), False)
        row = [(arrow,) for arrow in steps(ALL_TEN, (), ALL_TEN.arrows)]
        self.assertIs(is_stages(ALL_TEN, (), ALL_TEN.arrows, row[1:] + row[:1]), False)
        self.assertIs(is_stages(ALL_TEN, (), ALL_TEN.arrows, row[-2:] + row[:-2]), False)
        self.assertIs(is_stages(ALL_TEN, (), ALL_TEN.arrows, [ALL_TEN.arrows]), False)

    def test_many_arrows_at_once(self):
        self.assertIs(is_stages(STAR, (), STAR.arrows, [STAR.arrows]), True)
        self.assertIs(is_stages(STAR, STAR.arrows, (), [STAR.arrows]), True)
        self.assertIs(is_stages(STAR, (), STAR.arrows, [STAR.arrows[:4], STAR.arrows[4:]]), True)
        self.assertIs(is_stages(STAR, (), STAR.arrows, (STAR.arrows,)), False)
        closed = Home(10, STAR.arrows + ((8, 9),))
        self.assertIs(is_stages(closed, (), STAR.arrows, [STAR.arrows]), False)
        self.assertIs(is_stages(closed, (), STAR.arrows, [STAR.arrows[:8], STAR.arrows[8:]]), True)
        self.assertIs(is_stages(closed, (), STAR.arrows, [STAR.arrows[8:], STAR.arrows[:8]]), False)

    def test_a_ring_that_only_some_of_them_make(self):
        # Two arrows of one side make a ring, while none and all make none.
        home = Home(4, ((0, 1), (1, 2), (0, 3), (3, 2)))
        self.assertIs(is_stages(home, (), home.arrows, [home.arrows]), False)
        self.assertIs(is_stages(home, (), home.arrows, [((0, 1), (0, 3)), ((1, 2), (3, 2))]), True)
        self.assertIs(is_stages(home, (), home.arrows, [((0, 1), (1, 2)), ((0, 3), (3, 2))]), False)

    def test_values_of_every_kind(self):
        for thing in slow.ODD_VALUES:
            self.assertIs(is_stages(LINE, (), ((0, 1),), thing), False)
            self.assertIs(is_stages(LINE, (), ((0, 1),), [thing]), repr(thing) == "((0, 1),)")
            self.assertIs(is_stages(LINE, (), ((0, 1),), [(thing,)]), repr(thing) == "(0, 1)")
            self.assertIs(is_stages(LINE, (), ((0, 1),), [((0, 1),), thing]), False)
            self.assertIs(is_stages(LINE, (), (), thing), repr(thing) == "[]")
        for thing in ([((False, True),)], [((0, True),)], [([0, 1],)], [[(0, 1)]], (((0, 1),),), [((1, 0),)]):
            self.assertIs(is_stages(LINE, (), ((0, 1),), thing), False)
