"""Point 14: seen ties, what they make sure, how many standings fit them, and the next look."""

import unittest
from itertools import product
from random import Random

from tests import slow
from tests.test_counting import GREAT, JUST_5000
from turnedapart.errors import NoFit, NoSeen, TooMany
from turnedapart.homes import Home
from turnedapart.seen import fitting, is_seen, next_look, sure

LINE = Home(3, ((0, 1), (1, 2), (0, 2)))
RING = (((0, 1), False), ((0, 2), True), ((1, 2), False))
NOT_SEEN = (None, True, 0, "", "seen", [], {}, LINE, (0, 1), ((0, 1), True), ((0, 1),), (((0, 1), 0),),
            (((0, 1), 1),), (((0, 1), None),), (((0, 1), "True"),), (((0, 1), (True,)),), ([(0, 1), True],),
            (([0, 1], True),), [((0, 1), True)], (((1, 0), True),), (((0, 3), True),), (((False, 1), True),),
            (((0, True), False),), (((0, 1), True), ((0, 1), True)), (((0, 1), True), ((0, 1), False)),
            (((0, 2), True), ((0, 1), True)), (((0, 1), True, True),), (((0, 1), True), None), ((True, (0, 1)),),
            (((0, 1, 2), True),), ((0, True),), (((), True),), {((0, 1), True): 1})


def all_seen(home, source, most=40):
    """Seen ties of all lots of arrows, so many of them that the source gives."""
    rows = [tuple(zip(lot, flags)) for lot in slow.lots(home) for flags in product((False, True), repeat=len(lot))]
    return rows if len(rows) <= most else source.sample(rows, most)


def fits(home, seen):
    return [lot for lot in slow.standings(home) if all((arrow in lot) is flag for arrow, flag in seen)]


def homes_and_seen(seed):
    source = Random(seed)
    for home in slow.small_homes() + slow.bad_homes()[::3]:
        for seen in all_seen(home, source):
            yield home, seen


class IsSeen(unittest.TestCase):
    def test_right_ones(self):
        for home, seen in homes_and_seen(1):
            self.assertIs(is_seen(home, seen), True)
            self.assertIs(is_seen(home, list(seen)), False)
            if len(seen) > 1:
                self.assertIs(is_seen(home, seen[::-1]), False)
                self.assertIs(is_seen(home, seen + seen[-1:]), False)

    def test_wrong_ones(self):
        for thing in NOT_SEEN:
            self.assertIs(is_seen(LINE, thing), False, repr(thing)[:60])

    def test_values_of_every_kind(self):
        for thing in slow.ODD_VALUES:
            self.assertIs(is_seen(LINE, thing), repr(thing) == "()")
            self.assertIs(is_seen(LINE, ((thing, True),)), repr(thing) == "(0, 1)")
            self.assertIs(is_seen(LINE, (((0, 1), thing),)), thing is True or thing is False)
            self.assertIs(is_seen(LINE, (((0, 1), True), thing)), False)


class Sure(unittest.TestCase):
    def test_against_all_standings(self):
        nothing = 0
        for home, seen in homes_and_seen(2):
            every = fits(home, seen)
            if every:
                had = tuple(arrow for arrow in home.arrows if all(arrow in lot for lot in every))
                lacked = tuple(arrow for arrow in home.arrows if not any(arrow in lot for lot in every))
                self.assertEqual(sure(home, seen), (had, lacked))
            else:
                nothing += 1
                self.assertIsNone(sure(home, seen))
        self.assertGreater(nothing, 20)

    def test_some(self):
        self.assertEqual(sure(LINE, ()), ((), ()))
        self.assertEqual(sure(LINE, (((0, 1), True),)), (((0, 1),), ()))
        self.assertEqual(sure(LINE, (((0, 1), True), ((0, 2), False))), (((0, 1),), ((0, 2), (1, 2))))
        self.assertEqual(sure(LINE, (((0, 1), True), ((1, 2), True))), (LINE.arrows, ()))
        self.assertEqual(sure(LINE, (((0, 1), False), ((1, 2), False))), ((), LINE.arrows))
        self.assertIsNone(sure(LINE, RING))

    def test_ten_things(self):
        home = GREAT[1]
        row = tuple(((k, k + 1), True) for k in range(9))
        self.assertEqual(sure(home, row), (home.arrows, ()))
        self.assertEqual(sure(home, row[:1]), (((0, 1),), ()))
        self.assertIsNone(sure(home, (((0, 1), True), ((0, 9), False)) + row[1:]))

    def test_no_seen(self):
        for thing in NOT_SEEN:
            self.assertRaises(NoSeen, sure, LINE, thing)


class Fitting(unittest.TestCase):
    def test_against_all_standings(self):
        for home, seen in homes_and_seen(3):
            self.assertEqual(fitting(home, seen), len(fits(home, seen)))

    def test_some(self):
        self.assertEqual(fitting(LINE, RING), 0)
        self.assertEqual(fitting(LINE, ()), 6)
        self.assertEqual(fitting(Home(1, ()), ()), 1)
        self.assertEqual(fitting(JUST_5000, ()), 5000)
        self.assertEqual(fitting(JUST_5000, ((JUST_5000.arrows[3], True),)), 2500)

    def test_errors_in_their_order(self):
        for home in GREAT:
            for seen in ((), ((home.arrows[0], True),), tuple((arrow, True) for arrow in home.arrows)):
                with self.assertRaises(TooMany) as caught:
                    fitting(home, seen)
                self.assertEqual(caught.exception.most, 5000)
            for thing in (None, 0, [], ((home.arrows[0], 1),), ((home.arrows[0][::-1], True),)):
                self.assertRaises(NoSeen, fitting, home, thing)
        # Too many it is where none of them fits, too.
        self.assertRaises(TooMany, fitting, GREAT[2], RING)
        for thing in NOT_SEEN:
            self.assertRaises(NoSeen, fitting, LINE, thing)


class NextLook(unittest.TestCase):
    def test_against_all_standings(self):
        for home, seen in homes_and_seen(4):
            every = fits(home, seen)
            if not every:
                self.assertRaises(NoFit, next_look, home, seen)
                continue
            rows = []
            for arrow in home.arrows:
                many = sum(arrow in lot for lot in every)
                if 0 < many < len(every):
                    rows.append((max(many, len(every) - many), arrow))
            self.assertEqual(next_look(home, seen), min(rows)[1] if rows else None)

    def test_some(self):
        self.assertEqual(next_look(LINE, ()), (0, 1))
        self.assertEqual(next_look(LINE, (((0, 1), False),)), (0, 2))
        self.assertEqual(next_look(LINE, (((0, 1), False), ((0, 2), False))), (1, 2))
        self.assertIsNone(next_look(LINE, (((0, 1), True), ((1, 2), True))))
        self.assertIsNone(next_look(Home(10, ()), ()))

    def test_not_the_least_arrow_but_the_evenest(self):
        home = Home(4, ((0, 1), (0, 3), (1, 2), (2, 3)))
        told = next_look(home, (((0, 1), False), ((1, 2), False)))
        self.assertEqual(told, (0, 3))
        late = Home(5, ((0, 1), (0, 2), (1, 2), (3, 4)))
        self.assertEqual(next_look(late, (((0, 2), False),)), (3, 4))

    def test_5000_standings(self):
        self.assertEqual(next_look(JUST_5000, ()), (0, 5))
        looks, seen = 0, ()
        while next_look(JUST_5000, seen) is not None:
            looks += 1
            seen = tuple(sorted(seen + ((next_look(JUST_5000, seen), looks % 3 == 0),)))
        self.assertEqual(fitting(JUST_5000, seen), 1)

    def test_errors_in_their_order(self):
        self.assertRaises(NoFit, next_look, LINE, RING)
        # A home of too many standings has none that fits: NoFit stands ahead of TooMany.
        self.assertRaises(NoFit, next_look, GREAT[2], RING)
        for thing in NOT_SEEN:
            self.assertRaises(NoSeen, next_look, LINE, thing)
        for home in GREAT:
            for thing in (None, 0, [], ((home.arrows[0], 1),), ((home.arrows[0][::-1], True),)):
                self.assertRaises(NoSeen, next_look, home, thing)
            for seen in ((), ((home.arrows[0], True),), tuple((arrow, True) for arrow in home.arrows)):
                with self.assertRaises(TooMany) as caught:
                    next_look(home, seen)
                self.assertEqual(caught.exception.most, 5000)
