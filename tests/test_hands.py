"""Point 8: a hand turns arrows, takes turns back, and is copied."""

import unittest
from random import Random

from tests import slow
from turnedapart.errors import NoArrow, NoStanding, NotBare, NothingDone
from turnedapart.hands import Hand
from turnedapart.homes import Home
from turnedapart.turns import alone, steps

LINE = Home(3, ((0, 1), (1, 2), (0, 2)))
NO_ARROWS = [thing for thing in slow.ODD_VALUES if repr(thing) != "(0, 1)"]
NO_STANDINGS = [thing for thing in slow.ODD_VALUES if repr(thing) not in ("()", "((0, 1),)")] + [((0, 2),)]


def state(hand):
    return hand.standing(), hand.log()


class Turning(unittest.TestCase):
    def test_the_beginning(self):
        self.assertEqual(state(Hand(LINE)), ((), []))

    def test_turned_and_turned_back(self):
        hand = Hand(LINE)
        self.assertIsNone(hand.turn((1, 2)))
        self.assertIsNone(hand.turn((0, 2)))
        self.assertEqual(state(hand), (((0, 2), (1, 2)), [(1, 2), (0, 2)]))
        hand.turn((0, 2))
        self.assertEqual(state(hand), (((1, 2),), [(1, 2), (0, 2), (0, 2)]))

    def test_each_arrow_in_each_standing(self):
        for place, home in enumerate(slow.small_homes()):
            for standing, _ in slow.some_pairs(slow.standings(home), place):
                for arrow in home.arrows:
                    self.one_turn(home, standing, arrow)

    def one_turn(self, home, standing, arrow):
        hand = Hand(home)
        hand.go_to(standing)
        before = state(hand)
        if arrow in alone(home, standing):
            hand.turn(arrow)
            self.assertEqual(state(hand), (slow.turned(standing, arrow), before[1] + [arrow]))
        else:
            first, last = arrow[::-1] if arrow in standing else arrow
            ways = slow.ways(home.many, slow.pairs_led(home, standing), first, last)
            with self.assertRaises(NotBare) as caught:
                hand.turn(arrow)
            self.assertEqual(caught.exception.way, [way for way in ways if len(way) > 2][0])
            self.assertEqual(state(hand), before)

    def test_the_least_of_the_shortest_other_ways(self):
        home = Home(7, ((0, 1), (1, 2), (2, 6), (0, 5), (5, 6), (0, 4), (4, 6), (0, 6)))
        hand = Hand(home)
        with self.assertRaises(NotBare) as caught:
            hand.turn((0, 6))
        self.assertEqual(caught.exception.way, (0, 4, 6))
        hand.go_to(home.arrows)
        with self.assertRaises(NotBare) as caught:
            hand.turn((0, 6))
        self.assertEqual(caught.exception.way, (6, 4, 0))

    def test_no_arrow(self):
        hand = Hand(LINE)
        hand.turn((0, 1))
        for thing in NO_ARROWS + [(2, 1), (0, 3), (False, True), [0, 1], ((0, 1),)]:
            self.assertRaises(NoArrow, hand.turn, thing)
        self.assertEqual(state(hand), (((0, 1),), [(0, 1)]))


class GoingTo(unittest.TestCase):
    def test_by_the_row_of_steps(self):
        for place, home in enumerate(slow.small_homes()):
            hand, last, log = Hand(home), (), []
            for pair in slow.some_pairs(slow.standings(home), place):
                for standing in pair:
                    self.assertIsNone(hand.go_to(standing))
                    log += steps(home, last, standing)
                    last = standing
                    self.assertEqual(state(hand), (standing, log))

    def test_where_it_stands(self):
        hand = Hand(LINE)
        hand.go_to(())
        self.assertEqual(state(hand), ((), []))

    def test_no_standing(self):
        hand = Hand(LINE)
        hand.turn((0, 1))
        for thing in NO_STANDINGS:
            self.assertRaises(NoStanding, hand.go_to, thing)
        self.assertEqual(state(hand), (((0, 1),), [(0, 1)]))


class Back(unittest.TestCase):
    def test_one_turn_at_a_time(self):
        hand = Hand(LINE)
        hand.turn((0, 1))
        hand.go_to(LINE.arrows)
        self.assertEqual(hand.log(), [(0, 1), (0, 2), (1, 2)])
        self.assertIsNone(hand.back())
        self.assertEqual(state(hand), (((0, 1), (0, 2)), [(0, 1), (0, 2)]))
        hand.back()
        hand.back()
        self.assertEqual(state(hand), ((), []))

    def test_a_turn_back_is_taken_back(self):
        hand = Hand(LINE)
        hand.turn((0, 1))
        hand.turn((0, 1))
        hand.back()
        self.assertEqual(state(hand), (((0, 1),), [(0, 1)]))

    def test_nothing_done(self):
        hand = Hand(LINE)
        self.assertRaises(NothingDone, hand.back)
        hand.go_to(())
        self.assertRaises(NothingDone, hand.back)
        hand.turn((1, 2))
        hand.back()
        self.assertRaises(NothingDone, hand.back)
        self.assertEqual(state(hand), ((), []))

    def test_all_the_way_back(self):
        for seed in range(5):
            home = slow.random_home(6, seed)
            hand, source, told = Hand(home), Random(seed), []
            for _ in range(40):
                told.append(state(hand))
                hand.turn(source.choice(alone(home, hand.standing())))
            for before in reversed(told):
                hand.back()
                self.assertEqual(state(hand), before)


class Apart(unittest.TestCase):
    def test_copies_go_apart(self):
        hand = Hand(LINE)
        hand.turn((0, 1))
        other = hand.copy()
        self.assertIsInstance(other, Hand)
        self.assertEqual(state(other), state(hand))
        hand.turn((0, 2))
        self.assertEqual(state(other), (((0, 1),), [(0, 1)]))
        other.turn((0, 1))
        self.assertEqual(state(hand), (((0, 1), (0, 2)), [(0, 1), (0, 2)]))
        self.assertEqual(state(other), ((), [(0, 1), (0, 1)]))

    def test_copies_go_back_apart(self):
        hand = Hand(LINE)
        hand.go_to(LINE.arrows)
        other = hand.copy()
        other.back()
        other.back()
        self.assertEqual(state(other), (((0, 1),), [(0, 1)]))
        self.assertEqual(state(hand), (LINE.arrows, [(0, 1), (0, 2), (1, 2)]))
        hand.back()
        self.assertEqual(hand.log(), [(0, 1), (0, 2)])
        self.assertEqual(other.log(), [(0, 1)])
        other.back()
        self.assertRaises(NothingDone, other.back)

    def test_a_log_is_new(self):
        hand = Hand(LINE)
        hand.turn((0, 1))
        log = hand.log()
        log.append((1, 2))
        self.assertEqual(hand.log(), [(0, 1)])
        hand.turn((0, 2))
        self.assertEqual(log, [(0, 1), (1, 2)])

    def test_two_hands_at_one_home(self):
        one, other = Hand(LINE), Hand(LINE)
        one.turn((0, 1))
        self.assertEqual(state(other), ((), []))
