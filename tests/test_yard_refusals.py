"""Point 15: crews that no yard is made of, and what a yard refuses."""

import unittest
from itertools import combinations

from tests import slow
from tests.books import told, yard_state
from turnedapart.errors import BadCrews, Busy, NoArrow, NoCrew, NoLot, NoNumber, NotBare, NothingDone, NoThing, NotNow
from turnedapart.homes import Home
from turnedapart.yard import Yard

LINE = Home(3, ((0, 1), (1, 2), (0, 2)))
RING = ((0, 2),)
ALL_TEN = Home(10, tuple(combinations(range(10), 2)))
NO_LOTS = [thing for thing in slow.ODD_VALUES if repr(thing) not in ("()", "((0, 1),)")]
NO_NUMBERS = (-1, 10 ** 29, -10 ** 29, True, False, None, "0", "", (0,), [0], {}, {0: 0}, LINE,
              slow.nested(30, list), slow.nested(30, tuple), slow.nested(30, dict), "~" * 20000)


class Making(unittest.TestCase):
    def bad(self, index, home, lot, crews):
        with self.assertRaises(BadCrews) as caught:
            Yard(home, lot, crews)
        self.assertEqual(caught.exception.index, index)

    def test_how_many(self):
        fine = (((0, 1),), ())
        for many in range(11):
            self.assertEqual(Yard(LINE, (), (fine[0],) * many).now(), ((0, 0),) * many)
        for many in (11, 12, 40):
            self.bad(-1, LINE, (), (fine[0],) * many)
            self.bad(-1, LINE, (), (None,) * many)

    def test_no_tuple(self):
        for thing in slow.ODD_VALUES + ([((0,),)], {0: ((0,),)}):
            if not isinstance(thing, tuple):
                self.bad(-1, LINE, (), thing)

    def test_values_of_every_kind(self):
        for thing in slow.ODD_VALUES:
            if repr(thing) != "()":
                if repr(thing) not in ("((0, 1),)", "((0, 1), (0, 1))", "((0, 1, 2),)", "((0,),)"):
                    self.bad(0, LINE, (), (thing,))
                    self.bad(1, LINE, (), (((0,),), thing))
                if repr(thing) not in ("(0, 1, 2)", "(0,)"):
                    self.bad(0, LINE, (), ((thing,),))
                    self.bad(2, LINE, (), ((), ((0,), (1,)), ((0, 1), thing)))

    def test_each_index(self):
        wrong = ((0, 3),)
        for index in range(10):
            crews = [((0, 1),)] * 10
            crews[index] = wrong
            self.bad(index, LINE, (), tuple(crews))
            self.bad(index, LINE, (), tuple(crews[:index + 1]))
            self.bad(index, LINE, (), tuple(crews[:index + 1] + [None] * (9 - index)))

    def test_rounds(self):
        for many in range(7):
            self.assertEqual(Yard(LINE, (), (((0, 2),) * many,)).now(), ((0, 0),))
        for many in (7, 8, 40):
            self.bad(0, LINE, (), (((0, 2),) * many,))

    def test_sizes_of_needs(self):
        for size in range(1, 6):
            need = tuple(range(2, 2 + size))
            yard = Yard(ALL_TEN, ALL_TEN.arrows, ((need,),))
            self.assertEqual(yard.lead(10000), size + 1)
            yard.back()
            self.assertEqual(yard.holds(0), need[::-1])
        self.bad(0, ALL_TEN, (), ((tuple(range(6)),),))
        self.bad(0, ALL_TEN, (), ((tuple(range(10)),),))
        self.bad(0, ALL_TEN, (), (((),),))

    def test_needs_that_are_none(self):
        for need in ((1, 0), (0, 0), (0, 1, 1), (0, 3), (-1, 0), (False,), (0, True), [0], [0, 1], (0, None), 0, None,
                     ((0, 1),), ("0",), {0: 1}, (0, 2, 1)):
            self.bad(1, LINE, (), ((), (need,)))
            self.bad(0, LINE, (), (((0, 1), need), None))

    def test_things_that_are_not_tied(self):
        home = Home(4, ((0, 1), (1, 2), (2, 3)))
        for need in ((0, 2), (0, 1, 2), (1, 3), (0, 3), (0, 1, 2, 3)):
            self.bad(0, home, (), ((need,),))
        Yard(home, (), (((0, 1), (1, 2), (2, 3)),))

    def test_rings_within_a_need(self):
        home = Home(4, tuple(combinations(range(4), 2)))
        lot = ((0, 2),)
        self.bad(1, home, lot, (((0, 1), (2,)), ((3,), (0, 1, 2))))
        self.bad(0, home, lot, (((0, 1, 2, 3),),))
        yard = Yard(home, lot, (((0, 1, 3), (0, 2, 3), (1, 2, 3)),))
        self.assertEqual(yard.lead(3), 3)
        self.assertEqual(yard.lot(), lot)

    def test_no_lot_comes_first(self):
        for thing in NO_LOTS:
            for crews in ((), None, (None,)):
                self.assertRaises(NoLot, Yard, LINE, thing, crews)
        self.bad(-1, LINE, RING, None)
        self.assertEqual(Yard(LINE, RING, ()).lot(), RING)

    def test_no_crews_at_all(self):
        yard = Yard(LINE, (), ())
        self.assertEqual(yard_state(yard, LINE), ((), (), [], [None] * 3, (), (), []))
        self.assertEqual(yard.lead(10), 0)
        self.assertRaises(NoCrew, yard.take, 0)
        self.assertEqual(yard.change(LINE.arrows), [("turn", 0, 1), ("turn", 0, 2), ("turn", 1, 2)])


class Refusals(unittest.TestCase):
    def setUp(self):
        self.yard = Yard(LINE, (), (((0, 1),), ((0, 1, 2), (2,))))
        self.yard.take(0)

    def refuses(self, error, call, *values):
        before = yard_state(self.yard, LINE)
        with self.assertRaises(error) as caught:
            call(*values)
        self.assertEqual(yard_state(self.yard, LINE), before)
        return caught.exception

    def test_no_crew(self):
        for thing in NO_NUMBERS + (2, 3):
            for call in (self.yard.take, self.yard.leave, self.yard.holds):
                self.refuses(NoCrew, call, thing)

    def test_no_thing(self):
        for thing in NO_NUMBERS + (3, 4):
            self.refuses(NoThing, self.yard.holder, thing)
        self.assertEqual([self.yard.holder(thing) for thing in range(3)], [0, None, None])

    def test_not_now(self):
        self.refuses(NotNow, self.yard.leave, 0)
        self.refuses(NotNow, self.yard.leave, 1)
        self.yard.take(0)
        self.refuses(NotNow, self.yard.take, 0)
        self.assertIsNone(self.yard.leave(0))
        self.refuses(NotNow, self.yard.take, 0)
        self.refuses(NotNow, self.yard.leave, 0)

    def test_a_thing_that_another_one_holds(self):
        before = yard_state(self.yard, LINE)
        self.assertIs(self.yard.take(1), False)
        self.assertEqual(yard_state(self.yard, LINE), before)
        self.assertEqual(before[4], ((1, 0),))

    def test_numbers_of_lead(self):
        for thing in NO_NUMBERS + (10001,):
            self.refuses(NoNumber, self.yard.lead, thing)
        self.assertEqual(self.yard.lead(0), 0)
        self.assertEqual(self.yard.lead(10000), 8)

    def test_lead_leaves_first(self):
        self.yard.take(0)
        self.assertEqual(self.yard.lead(2), 2)
        self.assertEqual(self.yard.log()[2:], [("leave", 0), ("take", 1)])
        self.yard.lead(4)
        self.assertEqual(self.yard.log()[4:], [("take", 1), ("take", 1), ("leave", 1), ("take", 1)])

    def test_no_arrow(self):
        for thing in [thing for thing in slow.ODD_VALUES if repr(thing) != "(0, 1)"] + [(1, 0), (0, 3), [0, 1]]:
            self.refuses(NoArrow, self.yard.turn, thing)

    def test_not_bare_comes_before_busy(self):
        self.assertEqual(self.refuses(Busy, self.yard.turn, (0, 1)).who, 0)
        self.assertIsNone(self.yard.turn((1, 2)))
        yard = Yard(LINE, (), (((0,),), ((0, 1, 2),)))
        yard.take(1)
        self.yard = yard
        self.assertEqual(self.refuses(NotBare, yard.turn, (0, 2)).way, (0, 1, 2))
        self.assertEqual(self.refuses(Busy, yard.turn, (1, 2)).who, 1)
        self.assertEqual(self.refuses(Busy, yard.turn, (0, 1)).who, 1)

    def test_the_least_busy_one(self):
        home = Home(5, tuple(combinations(range(5), 2)))
        yard = Yard(home, (), (((3, 4),), ((2, 3, 4),), ((1, 3, 4),), ((0, 3, 4),), ((0,),)))
        yard.take(3)
        with self.assertRaises(Busy) as caught:
            yard.turn((3, 4))
        self.assertEqual(caught.exception.who, 3)
        yard.take(1)
        with self.assertRaises(Busy) as caught:
            yard.turn((3, 4))
        self.assertEqual(caught.exception.who, 1)
        yard.back()
        yard.back()
        yard.turn((3, 4))
        self.assertEqual(yard.lot(), ((3, 4),))

    def test_the_other_way_may_run_along_a_ring(self):
        home = Home(4, ((0, 1), (0, 2), (1, 2), (2, 3), (0, 3)))
        yard = Yard(home, ((0, 3),), ())
        with self.assertRaises(NotBare) as caught:
            yard.turn((0, 2))
        self.assertEqual(caught.exception.way, (0, 1, 2))
        self.assertIsNone(yard.turn((0, 3)))
        self.assertEqual(yard.lot(), ())

    def test_nothing_done(self):
        self.yard.back()
        self.refuses(NothingDone, self.yard.back)
        self.assertEqual(self.yard.now(), ((0, 0), (0, 0)))

    def test_refused_things_are_not_in_the_log(self):
        self.yard.take(1)
        told(self.yard.turn, (0, 2))
        told(self.yard.leave, 1)
        told(self.yard.change, None)
        self.assertEqual(self.yard.log(), [("take", 0)])
