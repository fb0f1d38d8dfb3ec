"""Point 16: all runs of a yard without turns, stuck ones, and crews that are made stuck."""

import unittest
from itertools import combinations, islice, permutations, product
from math import factorial
from random import Random

from tests import slow
from tests.books import all_runs, needs_of, stuck_behind
from turnedapart.allruns import is_made_stuck, is_stuck_run, made_stuck, many_runs, stuck_run
from turnedapart.errors import BadCrews, NoLot, TooMany
from turnedapart.homes import Home, is_standing, ring
from turnedapart.yard import Yard

LINE = Home(3, ((0, 1), (1, 2), (0, 2)))
RING = ((0, 2),)
THREE = (((0, 1),), ((1, 2),), ((0, 2),))
FOUR = Home(4, tuple(combinations(range(4), 2)))
ALL_TEN = Home(10, tuple(combinations(range(10), 2)))
NO_LOTS = [thing for thing in slow.ODD_VALUES if repr(thing) not in ("()", "((0, 1),)")]
# Moves of these lead through just 5000, and just 5001 tuples of now.
JUST_5000 = (((0,), (0,)), ((1,), (1,)), ((2,), (2,)), ((3,), (3,)), ((4,), (4,), (4, 5)))
JUST_5001 = (((0, 1), (1,)), ((2,),), ((2, 3), (0, 1)), ((0, 2), (0, 1), (1,), (0, 1, 2)), ((0, 2), (1, 2, 3), (2,)))
MORE = (((0,),) * 6, ((1,),) * 6, ((2,),) * 6, ((3,),) * 6)


def drawn(many, seed, most_runs=1500):
    """Small yards, so many that the seed gives, with all of their runs: under standings, rings and other lots."""
    source = Random(seed)
    while many:
        home = slow.random_home(source.randrange(2, 5), source.randrange(10 ** 6), source.choice((0.7, 1)))
        lot = tuple(arrow for arrow in home.arrows if source.random() < 0.5)
        needs = needs_of(home, lot)
        crews = tuple(tuple(source.choice(needs) for _ in range(source.randrange(3))) for _ in range(source.randrange(4)))
        runs = list(islice(all_runs(home, lot, crews), most_runs))
        if len(runs) < most_runs:
            many -= 1
            yield home, lot, crews, runs


def with_rings():
    """Lots with rings, each with crews of one need for each tie, and all of their runs."""
    for home in (LINE, FOUR, slow.rounds_of_ties()[9]):
        for lot in slow.lots(home):
            around = ring(home, lot)
            if around:
                crews = made_stuck(home, lot)[0]
                yield home, lot, crews, list(all_runs(home, lot, crews))


def unlike(run):
    """Changed runs: moves left out, twice, exchanged, of other crews, of other kinds."""
    for k in range(len(run)):
        yield run[:k] + run[k + 1:]
        yield run[:k] + run[k:k + 1] + run[k:]
        yield run[:k] + run[k + 1:k + 2] + run[k:k + 1] + run[k + 2:]
        word, c = run[k]
        for other in ((word, c + 1), (word, 10), (word, -1), (word, True), (word, None), (word,), [word, c], None,
                      ("leave" if word == "take" else "take", c), (c, word), (word, c, 0), ("turn", c), (word, str(c))):
            yield run[:k] + (other,) + run[k + 1:]
    yield run[:-1]
    yield run + run[-1:]
    yield list(run)
    yield run + (None,)


class StuckRuns(unittest.TestCase):
    def each(self):
        yield from drawn(150, 1)
        yield from with_rings()

    def test_against_all_runs(self):
        found = 0
        for home, lot, crews, runs in self.each():
            stuck = [moves for moves, left in runs if left]
            told = stuck_run(home, lot, crews)
            if stuck:
                found += 1
                self.assertIn(told, stuck)
                self.assertEqual(stuck_run(home, lot, crews), told)
            else:
                self.assertIsNone(told)
        self.assertGreater(found, 30)

    def test_of_all_runs_just_the_stuck_ones(self):
        for home, lot, crews, runs in self.each():
            for moves, left in runs[::7] + runs[-1:]:
                self.assertIs(is_stuck_run(home, lot, crews, moves), left)

    def test_changed_runs(self):
        for home, lot, crews, runs in self.each():
            stuck = {moves for moves, left in runs if left}
            for moves in sorted(stuck)[::29]:
                for other in unlike(moves):
                    right = isinstance(other, tuple) and all(type(move) is tuple for move in other) and other in stuck
                    if right and any(type(c) is not int for word, c in other):
                        right = False
                    self.assertIs(is_stuck_run(home, lot, crews, other), right, other)

    def test_values_of_every_kind(self):
        for thing in slow.ODD_VALUES:
            self.assertIs(is_stuck_run(LINE, RING, THREE, thing), False)
            self.assertIs(is_stuck_run(LINE, RING, THREE, (("take", 0), ("take", 1), thing)), False)
            self.assertIs(is_stuck_run(LINE, RING, THREE, (("take", 0), ("take", 1), ("take", thing))), repr(thing) == "2")
            self.assertIs(is_stuck_run(LINE, RING, THREE, (("take", 0), ("take", 1), (thing, 2))), False)
            self.assertIs(is_stuck_run(LINE, RING, (), thing), False)

    def test_none_under_standings(self):
        source = Random(3)
        for home in (LINE, FOUR, slow.random_home(5, 2)):
            for standing in slow.standings(home)[:12]:
                needs = needs_of(home, standing)
                crews = tuple((source.choice(needs), source.choice(needs)) for _ in range(3))
                self.assertIsNone(stuck_run(home, standing, crews))

    def test_a_lot_with_a_ring_that_nobody_goes_along(self):
        self.assertIsNone(stuck_run(LINE, RING, THREE[:2]))
        self.assertIsNone(stuck_run(FOUR, RING, (((0, 1),), ((1, 2),), ((2, 3),), ((0, 3),))))
        self.assertIsNotNone(stuck_run(FOUR, RING, (((0, 1),), ((1, 2),), ((0, 2),), ((0, 3),))))

    def test_no_crews_and_no_rounds(self):
        for crews in ((), ((),), ((), (), ())):
            self.assertIsNone(stuck_run(LINE, RING, crews))
            self.assertIs(is_stuck_run(LINE, RING, crews, ()), False)
            self.assertEqual(many_runs(LINE, RING, crews), 1)

    def test_a_run_that_may_go_on_is_not_stuck(self):
        self.assertIs(is_stuck_run(LINE, RING, THREE, (("take", 0), ("take", 1))), False)
        self.assertIs(is_stuck_run(LINE, RING, THREE, (("take", 0), ("take", 1), ("take", 2))), True)
        self.assertIs(is_stuck_run(LINE, RING, THREE, (("take", 2), ("take", 1), ("take", 0))), True)
        self.assertIs(is_stuck_run(LINE, RING, THREE + (((0,),),), (("take", 0), ("take", 1), ("take", 2))), True)
        more = THREE + (((0,),), ((1,),))
        self.assertIs(is_stuck_run(FOUR, RING, more + (((3,),),), (("take", 0), ("take", 1), ("take", 2))), False)


class ManyRuns(unittest.TestCase):
    def test_against_all_runs(self):
        for home, lot, crews, runs in list(drawn(150, 2)) + list(with_rings()):
            self.assertEqual(many_runs(home, lot, crews), len(runs))
            self.assertEqual(len(set(runs)), len(runs))

    def test_crews_that_do_not_meet(self):
        # Three moves each for one need of two things, two for one of one.
        self.assertEqual(many_runs(FOUR, (), (((0, 1),), ((2, 3),))), 20)
        crews = (((0,), (0,)), ((1,),), ((2,),), ((3,),))
        self.assertEqual(many_runs(FOUR, (), crews), factorial(10) // (factorial(4) * 2 * 2 * 2))

    def test_one_crew(self):
        self.assertEqual(many_runs(ALL_TEN, (), (((0, 1, 2, 3, 4),) * 6,)), 1)

    def test_crews_alike(self):
        self.assertEqual(many_runs(LINE, (), (((0,),),) * 6), factorial(6))


class TooManyNows(unittest.TestCase):
    def too_many(self, *values):
        for call in (stuck_run, many_runs):
            with self.assertRaises(TooMany) as caught:
                call(*values)
            self.assertEqual(caught.exception.most, 5000)

    def test_just_5000(self):
        self.assertIsNone(stuck_run(ALL_TEN, (), JUST_5000))
        ways = factorial(4 * 4 + 7) // (factorial(4) ** 4 * factorial(7))
        self.assertEqual(many_runs(ALL_TEN, (), JUST_5000), ways)

    def test_just_more(self):
        self.too_many(FOUR, (), JUST_5001)
        self.too_many(ALL_TEN, (), JUST_5000 + (((9,),),))
        self.too_many(ALL_TEN, (), MORE)
        self.too_many(ALL_TEN, (), (((0,), (1,), (2,)),) * 10)

    def test_whatever_is_found_ahead(self):
        # Three of these crews can be stuck behind three moves.
        lot = ((7, 9),)
        crews = (((7, 8),), ((8, 9),), ((7, 9),))
        self.assertEqual(len(stuck_run(ALL_TEN, lot, crews)), 3)
        self.too_many(ALL_TEN, lot, crews + MORE)

    def test_is_stuck_run_has_no_such_bound(self):
        lot = ((7, 9),)
        crews = (((7, 8),), ((8, 9),), ((7, 9),)) + MORE
        run = tuple((word, c) for c in range(3, 7) for _ in range(6) for word in ("take", "leave"))
        self.assertIs(is_stuck_run(ALL_TEN, lot, crews, run), False)
        self.assertIs(is_stuck_run(ALL_TEN, lot, crews, run + (("take", 0), ("take", 1), ("take", 2))), True)

    def test_errors_in_their_order(self):
        calls = (stuck_run, many_runs, lambda *values: is_stuck_run(*values, None))
        for call in calls:
            for thing in NO_LOTS:
                self.assertRaises(NoLot, call, LINE, thing, None)
                self.assertRaises(NoLot, call, LINE, thing, ())
            for index, crews in ((-1, None), (-1, [()]), (-1, (((0,),),) * 11), (0, (None, None)), (1, MORE[:1] + (((1, 0),),)),
                                 (4, MORE + (((0, 10),),)), (0, (((0,),) * 7,)), (0, (((0, 1, 2, 3, 4, 5),),))):
                with self.assertRaises(BadCrews) as caught:
                    call(ALL_TEN, (), crews)
                self.assertEqual(caught.exception.index, index)
            with self.assertRaises(BadCrews) as caught:
                call(LINE, RING, (((0, 1),), ((0, 1, 2),)))
            self.assertEqual(caught.exception.index, 1)


class MadeStuck(unittest.TestCase):
    def rings(self):
        for home in (LINE, FOUR) + tuple(slow.rounds_of_ties()) + slow.small_homes()[::11] + slow.bad_homes()[::9]:
            for lot in slow.lots(home)[::3]:
                yield home, lot

    def test_none_just_for_standings(self):
        for home, lot in self.rings():
            self.assertEqual(made_stuck(home, lot) is None, is_standing(home, lot))

    def test_the_crews_are_stuck(self):
        for home, lot in self.rings():
            told = made_stuck(home, lot)
            if told is None:
                continue
            crews, moves = told
            size = len(slow.rings(home.many, slow.pairs_led(home, lot))[0])
            self.assertEqual([[len(need) for need in crew] for crew in crews], [[2]] * size)
            yard = Yard(home, lot, crews)
            for word, c in moves:
                self.assertIn(getattr(yard, word)(c), (True, None))
            self.assertEqual(yard.stuck(), tuple(range(size)))
            self.assertEqual(yard.lead(10), 0)
            self.assertIs(is_made_stuck(home, lot, told), True)
            self.assertIs(is_stuck_run(home, lot, crews, moves), True)
            self.assertEqual(made_stuck(home, lot), told)

    def test_ten_things(self):
        home = Home(10, tuple((k, k + 1) for k in range(9)) + ((0, 9),))
        crews, moves = made_stuck(home, ((0, 9),))
        self.assertEqual((len(crews), len(moves)), (10, 10))
        self.assertIs(is_made_stuck(home, ((0, 9),), (crews, moves)), True)
        self.assertIs(is_made_stuck(home, ((0, 9),), (crews[::-1], moves)), True)
        self.assertIsNone(made_stuck(home, ()))

    def test_all_crews_and_moves(self):
        every = [(word, c) for word in ("take", "leave") for c in range(3)]
        rows = [row for size in (2, 3, 4) for row in product(every, repeat=size)]
        for crews in product([((0, 1),), ((0, 2),), ((1, 2),)], repeat=3):
            for moves in rows:
                right = stuck_behind(LINE, RING, crews, moves) == (0, 1, 2)
                self.assertIs(is_made_stuck(LINE, RING, (crews, moves)), right, (crews, moves))

    def test_other_right_ones(self):
        for crews in permutations(THREE):
            for moves in permutations([("take", c) for c in range(3)]):
                self.assertIs(is_made_stuck(LINE, RING, (crews, moves)), True)

    def test_the_rings_must_be_shortest(self):
        lot = ((0, 2), (0, 3))
        self.assertEqual(len(ring(FOUR, lot)), 3)
        longer = (((0, 1),), ((1, 2),), ((2, 3),), ((0, 3),))
        moves = tuple(("take", c) for c in range(4))
        self.assertEqual(stuck_behind(FOUR, lot, longer, moves), (0, 1, 2, 3))
        self.assertIs(is_made_stuck(FOUR, lot, (longer, moves)), False)
        self.assertIs(is_made_stuck(FOUR, lot, (THREE, moves[:3])), True)
        self.assertIs(is_made_stuck(FOUR, lot, (THREE + (((0, 3),),), moves)), False)
        self.assertIs(is_made_stuck(FOUR, lot, ((((1, 2),), ((2, 3),), ((1, 3),)), moves[:3])), False)

    def test_changed_ones(self):
        crews, moves = THREE, (("take", 0), ("take", 1), ("take", 2))
        wrong = [(crews[:2], moves[:2]), (crews + (((0,),),), moves), (crews + ((),), moves), (crews + crews[:1], moves),
                 ((((0, 1), (0,)),) + crews[1:], moves), ((((0, 1, 2),),) + crews[1:], moves),
                 ((((0,),),) + crews[1:], moves), (crews[1:] + crews[1:2], moves), ((((1, 0),),) + crews[1:], moves),
                 ((((0, True),),) + crews[1:], moves), ((((0, 3),),) + crews[1:], moves),
                 (list(crews), moves), (([(0, 1)],) + crews[1:], moves), ((([0, 1],),) + crews[1:], moves),
                 (crews, list(moves)), [crews, moves], (crews, moves, ()), (crews,), (moves, crews), (crews, ()),
                 (crews, moves[1:]), (crews, moves[:2]), (crews, moves + moves[:1]), (crews, moves[:1] + moves),
                 (crews, moves[:2] + (["take", 2],)), (crews, (("take", False),) + moves[1:]),
                 (crews, (("take", 0), ("take", True), ("take", 2))), (crews, moves[:2] + (("take", 3),)),
                 (crews, moves[:2] + (("leave", 2),)), (crews, None), (None, moves), (None, None), None,
                 (crews, moves + (("turn", 0, 1),)), (crews, moves + (None,)), ((((0, 1),),) * 3, moves), ((), ())]
        self.assertIs(is_made_stuck(LINE, RING, (crews, moves)), True)
        for thing in wrong:
            self.assertIs(is_made_stuck(LINE, RING, thing), False, thing)

    def test_never_for_standings(self):
        for standing in slow.standings(LINE):
            for thing in (None, (THREE, tuple(("take", c) for c in range(3))), ((), ()), (), "", 0):
                self.assertIs(is_made_stuck(LINE, standing, thing), False)

    def test_values_of_every_kind(self):
        for thing in slow.ODD_VALUES:
            for value in (thing, (thing, thing), (THREE, thing), (thing, (("take", 0),)), ((thing,) * 3, ()),
                          (((thing,),) * 3, ())):
                self.assertIs(is_made_stuck(LINE, RING, value), False)

    def test_no_lot(self):
        for thing in NO_LOTS:
            self.assertRaises(NoLot, made_stuck, LINE, thing)
            self.assertRaises(NoLot, is_made_stuck, LINE, thing, None)
