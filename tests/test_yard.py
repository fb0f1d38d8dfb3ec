"""Point 15: yards held against books of the tests' own."""

import unittest
from itertools import combinations
from random import Random

from tests import slow
from tests.books import YardBook, needs_of, refused, told, yard_state
from turnedapart.errors import NoStanding, NothingDone
from turnedapart.homes import Home, is_standing
from turnedapart.yard import Yard

LINE = Home(3, ((0, 1), (1, 2), (0, 2)))
RING = ((0, 2),)
NO_STANDINGS = [thing for thing in slow.ODD_VALUES if repr(thing) not in ("()", "((0, 1),)")] + [RING]
ALL_TEN = Home(10, tuple(combinations(range(10), 2)))


def drawn_crews(home, lot, source):
    """Crews of a few rounds each."""
    needs = needs_of(home, lot)
    return tuple(tuple(source.choice(needs) for _ in range(source.randrange(4))) for _ in range(source.randrange(1, 5)))


def drawn_yards(many, seed, rings):
    """Homes, lots and crews, the lots with rings or standings."""
    source = Random(seed)
    while many:
        home = slow.random_home(source.randrange(3, 6), source.randrange(10 ** 6), source.choice((0.6, 0.8, 1)))
        lot = tuple(arrow for arrow in home.arrows if source.random() < 0.5)
        if is_standing(home, lot) is not rings:
            many -= 1
            yield home, lot, drawn_crews(home, lot, source)


class AgainstBooks(unittest.TestCase):
    def pairs(self, many, seed):
        for rings in (False, True):
            for home, lot, crews in drawn_yards(many, seed, rings):
                yield home, Yard(home, lot, crews), YardBook(home, lot, crews)

    def same(self, home, yard, book, name, *values):
        answer = told(getattr(yard, name), *values)
        self.assertEqual(answer, getattr(book, name)(*values), (name, values))
        self.assertEqual(yard_state(yard, home), book.state(), (name, values))

    def test_the_beginning(self):
        for home, yard, book in self.pairs(40, 1):
            self.assertEqual(yard_state(yard, home), book.state())
            self.assertEqual(yard.log(), [])

    def test_drawn_moves_and_turns(self):
        source = Random(2)
        for home, yard, book in self.pairs(60, 2):
            for _ in range(40):
                name = source.choice(("take", "take", "take", "leave", "leave", "turn", "back"))
                if name == "turn" and home.arrows:
                    self.same(home, yard, book, name, source.choice(home.arrows))
                elif name in ("take", "leave"):
                    self.same(home, yard, book, name, source.randrange(len(book.crews)))
                else:
                    self.same(home, yard, book, "back")

    def test_leading(self):
        for home, yard, book in self.pairs(40, 3):
            for most in (0, 1, 2, 5, 3, 10000, 10000):
                self.same(home, yard, book, "lead", most)
            while book.log:
                self.same(home, yard, book, "back")
            self.same(home, yard, book, "back")

    def test_changing(self):
        source = Random(4)
        for home, yard, book in self.pairs(40, 4):
            every = slow.standings(home)
            for _ in range(4):
                self.same(home, yard, book, "lead", source.randrange(6))
                if is_standing(home, yard.lot()):
                    self.same(home, yard, book, "change", source.choice(every))
                else:
                    self.assertEqual(told(yard.change, source.choice(every)), refused("NoStanding"))
            while book.log:
                self.same(home, yard, book, "back")

    def test_stuck_ones_are_drawn(self):
        found, source = set(), Random(6)
        for home, lot, _ in drawn_yards(60, 6, True):
            crews = tuple((tuple(sorted(arrow)),) for arrow in home.arrows)
            yard, book = Yard(home, lot, crews), YardBook(home, lot, crews)
            for _ in range(25):
                self.same(home, yard, book, "take", source.randrange(len(crews)))
            found.add((len(book.stuck()), len(book.waits())))
        self.assertGreater(len(found), 8)
        self.assertTrue(any(0 < stuck < waiting for stuck, waiting in found))

    def test_no_crew_is_stuck_under_standings(self):
        source = Random(7)
        for home, lot, crews in drawn_yards(60, 7, False):
            yard = Yard(home, lot, crews)
            for _ in range(40):
                if home.arrows and source.random() < 0.3:
                    told(yard.turn, source.choice(home.arrows))
                else:
                    told(source.choice((yard.take, yard.leave)), source.randrange(len(crews)))
                self.assertEqual(yard.stuck(), ())
            yard.lead(10000)
            self.assertEqual(yard.now(), tuple((len(crew), 0) for crew in crews))

    def test_as_many_turns_as_differ(self):
        source = Random(8)
        for home, lot, crews in drawn_yards(40, 8, False):
            yard = Yard(home, lot, crews)
            yard.lead(source.randrange(9))
            standing = source.choice(slow.standings(home))
            done = yard.change(standing)
            turns = [item[1:] for item in done if item[0] == "turn"]
            self.assertEqual(sorted(turns), sorted(set(lot) ^ set(standing)))
            self.assertEqual(yard.lot(), standing)
            self.assertEqual(yard.change(standing), [])


class Orders(unittest.TestCase):
    def test_an_arrow_turned_ahead_of_the_first_taking(self):
        yard = Yard(LINE, (), (((0, 1, 2),),))
        yard.turn((0, 1))
        for _ in range(3):
            self.assertIs(yard.take(0), True)
        self.assertEqual(yard.holds(0), (1, 0, 2))

    def test_an_arrow_turned_between_two_rounds(self):
        yard = Yard(LINE, (), (((0, 1), (0, 1), (0, 2)),))
        self.assertEqual(yard.lead(3), 3)
        yard.turn((0, 1))
        yard.take(0)
        self.assertEqual(yard.holds(0), (1,))
        self.assertEqual((yard.holder(0), yard.holder(1), yard.holder(2)), (None, 0, None))
        yard.take(0)
        self.assertEqual(yard.holds(0), (1, 0))
        for _ in range(3):
            yard.back()
        self.assertEqual(yard.holds(0), ())
        yard.take(0)
        self.assertEqual(yard.holds(0), (0,))

    def test_a_lot_that_orders_all_needs_and_has_a_ring(self):
        yard = Yard(LINE, RING, (((0, 1),), ((1, 2),), ((0, 2),)))
        self.assertEqual([yard.take(c) for c in (0, 1, 2)], [True, True, True])
        self.assertEqual((yard.holds(0), yard.holds(1), yard.holds(2)), ((0,), (1,), (2,)))
        self.assertEqual(yard.waits(), ((0, 1), (1, 2), (2, 0)))
        self.assertEqual(yard.stuck(), (0, 1, 2))
        self.assertEqual([yard.take(c) for c in (0, 1, 2)], [False, False, False])
        self.assertEqual((yard.lead(10000), len(yard.log())), (0, 3))

    def test_who_waits_for_a_stuck_one_is_stuck(self):
        yard = Yard(LINE, RING, (((0,),), ((0, 1),), ((1, 2),), ((0, 2),), ((1,),), (), ((2,), (1,))))
        for c in (1, 2, 3):
            yard.take(c)
        self.assertEqual(yard.waits(), ((0, 1), (1, 2), (2, 3), (3, 1), (4, 2), (6, 3)))
        self.assertEqual(yard.stuck(), (0, 1, 2, 3, 4, 6))

    def test_waiting_is_not_being_stuck(self):
        yard = Yard(LINE, (), (((0, 1),), ((0, 2),), ((1, 2),), ((1,),)))
        yard.take(3)
        yard.take(0)
        self.assertEqual(yard.waits(), ((0, 3), (1, 0), (2, 3)))
        self.assertEqual(yard.stuck(), ())


class Change(unittest.TestCase):
    def setUp(self):
        self.yard = Yard(LINE, (), (((0, 1),), ((1, 2), (0, 2))))

    def test_to_the_standing_of_now(self):
        self.yard.take(0)
        self.assertEqual(self.yard.change(()), [])
        self.assertEqual(self.yard.log(), [("take", 0)])

    def test_to_a_far_one_and_asked_again(self):
        self.yard.take(0)
        self.yard.take(1)
        self.yard.take(1)
        done = self.yard.change(LINE.arrows)
        self.assertEqual(done, [("leave", 1), ("take", 0), ("leave", 0), ("turn", 0, 1), ("turn", 0, 2), ("turn", 1, 2)])
        self.assertEqual(self.yard.lot(), LINE.arrows)
        self.assertEqual(self.yard.change(LINE.arrows), [])
        self.assertEqual(self.yard.log(), [("take", 0), ("take", 1), ("take", 1)] + done)

    def test_the_least_bare_one_is_taken_up(self):
        late = Home(3, ((0, 1), (0, 2), (2, 1)))
        yard = Yard(late, (), (((0, 1, 2),), ((0,),)))
        yard.take(1)
        self.assertEqual(yard.change(late.arrows), [("turn", 0, 2), ("turn", 0, 1), ("turn", 2, 1)])

    def test_a_busy_one_that_waits(self):
        yard = Yard(LINE, (), (((1, 2),), ((0, 1, 2),), ((2,),)))
        yard.take(2)
        yard.take(0)
        yard.take(1)
        self.assertEqual(yard.waits(), ((0, 2), (1, 0)))
        self.assertEqual(yard.change(((0, 1),)), [("leave", 2), ("take", 0), ("leave", 0), ("take", 1), ("take", 1),
                                                  ("leave", 1), ("turn", 0, 1)])

    def test_the_least_of_those_that_are_busy(self):
        crews = (((2,),), ((0, 3, 4),), ((1, 3, 4),))
        home = Home(5, tuple(combinations(range(5), 2)))
        yard, book = Yard(home, (), crews), YardBook(home, (), crews)
        for made in (yard, book):
            made.take(1)
            made.take(2)
        done = yard.change(((3, 4),))
        self.assertEqual(done[:5], [("take", 1), ("take", 1), ("leave", 1), ("take", 2), ("take", 2)])
        self.assertEqual(done, book.change(((3, 4),)))

    def test_from_a_lot_with_a_ring(self):
        yard = Yard(LINE, RING, (((0, 1),),))
        for standing in slow.standings(LINE):
            self.assertRaises(NoStanding, yard.change, standing)
        self.assertEqual(yard_state(yard, LINE)[:2], (RING, ((0, 0),)))
        yard.turn((0, 2))
        self.assertEqual(yard.change(((0, 1),)), [("turn", 0, 1)])

    def test_no_standing(self):
        before = yard_state(self.yard, LINE)
        for thing in NO_STANDINGS:
            self.assertRaises(NoStanding, self.yard.change, thing)
            self.assertEqual(yard_state(self.yard, LINE), before)
        self.assertRaises(NoStanding, Yard(LINE, RING, ()).change, RING)

    def test_back_one_by_one(self):
        states = [yard_state(self.yard, LINE)]
        self.yard.take(0)
        states.append(yard_state(self.yard, LINE))
        self.yard.take(1)
        states.append(yard_state(self.yard, LINE))
        for item in self.yard.copy().change(LINE.arrows) + [("take", 1)]:
            if item[0] == "turn":
                self.yard.turn(item[1:])
            else:
                getattr(self.yard, item[0])(item[1])
            states.append(yard_state(self.yard, LINE))
        other = Yard(LINE, (), (((0, 1),), ((1, 2), (0, 2))))
        other.take(0)
        other.take(1)
        other.change(LINE.arrows)
        other.take(1)
        for before in reversed(states):
            self.assertEqual(yard_state(other, LINE), before)
            if before[6]:
                self.assertIsNone(other.back())
        self.assertRaises(NothingDone, other.back)


class Apart(unittest.TestCase):
    def test_copies_go_apart(self):
        yard = Yard(LINE, (), (((0, 1),), ((1, 2), (0, 2))))
        yard.take(0)
        yard.turn((1, 2))
        other = yard.copy()
        self.assertIsInstance(other, Yard)
        before = yard_state(yard, LINE)
        self.assertEqual(yard_state(other, LINE), before)
        other.take(0)
        other.lead(4)
        self.assertEqual(yard_state(yard, LINE), before)
        after = yard_state(other, LINE)
        yard.back()
        yard.back()
        yard.take(1)
        self.assertEqual(yard_state(other, LINE), after)
        self.assertEqual(yard.log(), [("take", 1)])
        for _ in after[6]:
            other.back()
        self.assertRaises(NothingDone, other.back)
        self.assertEqual(yard.log(), [("take", 1)])
        yard.back()
        self.assertEqual(yard_state(yard, LINE), yard_state(other, LINE))

    def test_a_copy_of_a_copy_goes_back(self):
        yard = Yard(LINE, RING, (((0, 1),), ((0, 2),)))
        yard.lead(3)
        other = yard.copy().copy()
        for _ in range(3):
            other.back()
        self.assertEqual(yard_state(other, LINE), yard_state(Yard(LINE, RING, (((0, 1),), ((0, 2),))), LINE))
        self.assertEqual(len(yard.log()), 3)

    def test_lists_that_were_told_are_new(self):
        yard = Yard(LINE, (), (((0, 1),),))
        yard.take(0)
        log = yard.log()
        log.append(("leave", 0))
        log[0] = None
        self.assertEqual(yard.log(), [("take", 0)])
        done = yard.change(((0, 1),))
        self.assertEqual(done, [("take", 0), ("leave", 0), ("turn", 0, 1)])
        done.clear()
        self.assertEqual(yard.log(), [("take", 0), ("take", 0), ("leave", 0), ("turn", 0, 1)])
        self.assertEqual(yard.lead(0), 0)

    def test_two_yards_of_one_home(self):
        one, other = Yard(LINE, (), (((0, 1),),)), Yard(LINE, (), (((0, 1),),))
        one.take(0)
        one.turn((1, 2))
        self.assertEqual((other.log(), other.lot(), LINE.arrows), ([], (), ((0, 1), (0, 2), (1, 2))))


class Large(unittest.TestCase):
    def test_ten_crews_of_six_rounds(self):
        needs = ((0, 1, 2, 3, 4), (5, 6, 7, 8, 9), (2, 4, 6, 8), (1, 9), (0, 3, 5, 7, 9), (4,))
        crews = tuple(needs[k % 6:] + needs[:k % 6] for k in range(10))
        yard, book = Yard(ALL_TEN, (), crews), YardBook(ALL_TEN, (), crews)
        for most in (40, 7, 100, 10000):
            self.assertEqual(yard.lead(most), book.lead(most))
            self.assertEqual(yard_state(yard, ALL_TEN), book.state())
        self.assertEqual(yard.now(), ((6, 0),) * 10)
        self.assertEqual(len(yard.log()), 10 * (22 + 6))
        for _ in range(150):
            yard.back()
            book.back()
        self.assertEqual(yard_state(yard, ALL_TEN), book.state())

    def test_changed_over(self):
        needs = ((0, 1, 2, 3, 4), (3, 4, 5, 6, 7), (5, 6, 7, 8, 9), (0, 9))
        crews = tuple(needs[k % 4:] + needs[:k % 4] for k in range(10))
        yard = Yard(ALL_TEN, (), crews)
        yard.lead(31)
        done = yard.change(ALL_TEN.arrows)
        self.assertEqual(sum(item[0] == "turn" for item in done), 45)
        self.assertEqual(yard.log()[31:], done)
        for _ in done:
            yard.back()
        self.assertEqual((yard.lot(), len(yard.log())), ((), 31))
        self.assertEqual(yard.change(ALL_TEN.arrows), done)
