"""Point 18: boards held against sheets of the tests' own, and what they refuse."""

import unittest
from copy import deepcopy
from itertools import combinations
from random import Random

from tests import slow
from tests.books import BoardBook, board_state, drawn_item, told
from turnedapart.board import Board
from turnedapart.errors import Clash, Closes, Full, NoArrow, NoHand, NotBare, NothingDone, NoThing, Tied
from turnedapart.homes import Home, turned_home

LINE = Home(3, ((0, 1), (1, 2), (0, 2)))
ROUND = Home(4, ((0, 1), (2, 1), (2, 3), (0, 3)))
ALL_TEN = Home(10, tuple(combinations(range(10), 2)))
NO_NUMBERS = (-1, 10 ** 29, -10 ** 29, True, False, None, "0", "", (0,), [0], {}, {0: 0}, LINE, ((0, 1),),
              slow.nested(30, list), slow.nested(30, tuple), slow.nested(30, dict), "~" * 20000)
NO_ARROWS = [thing for thing in slow.ODD_VALUES if repr(thing) != "(0, 1)"] + [(1, 0), (0, 3), (0, 1, 2), [0, 1]]


def some_homes():
    return slow.small_homes()[::3] + slow.bad_homes()[::4] + tuple(slow.random_home(5, seed, 0.4) for seed in range(8))


class AgainstSheets(unittest.TestCase):
    def same(self, board, book, name, *values):
        answer = told(getattr(board, name), *values)
        self.assertEqual(answer, getattr(book, name)(*values), (name, values))
        self.assertEqual(board_state(board), book.state(), (name, values))
        return answer

    def test_drawn_things(self):
        refused = set()
        for seed, home in enumerate(some_homes()):
            source, board, book = Random(seed), Board(home), BoardBook(home)
            for _ in range(30):
                name, values = drawn_item(book, source)
                answer = self.same(board, book, name, *values)
                if isinstance(answer, tuple) and answer[:1] == ("refused",):
                    refused.add(answer[1])
                if source.random() < 0.15:
                    self.same(board, book, "back")
        self.assertLessEqual({"NoHand", "NoArrow", "NotBare", "Clash", "Tied", "Closes"}, refused)

    def test_all_taken_back(self):
        for seed, home in enumerate(some_homes()[::2]):
            source, board, book = Random(seed), Board(home), BoardBook(home)
            for _ in range(25):
                name, values = drawn_item(book, source)
                self.same(board, book, name, *values)
            while book.log:
                self.same(board, book, "back")
            self.same(board, book, "back")
            self.assertEqual(board_state(board), board_state(Board(home)))

    def test_copies(self):
        for seed, home in enumerate(some_homes()[::2]):
            source, pairs = Random(seed), [(Board(home), BoardBook(home))]
            for step in range(40):
                board, book = source.choice(pairs)
                if step % 8 == 4:
                    pairs.append((board.copy(), deepcopy(book)))
                elif source.random() < 0.25:
                    self.same(board, book, "back")
                else:
                    name, values = drawn_item(book, source)
                    self.same(board, book, name, *values)
                for board, book in pairs:
                    self.assertEqual(board_state(board), book.state())


class Hands(unittest.TestCase):
    def test_no_hands_at_all(self):
        board = Board(LINE)
        self.assertEqual(board_state(board), ((3, LINE.arrows), (), (), (), 0, []))
        self.assertEqual(board.agree(), ())
        self.assertEqual(board_state(board), ((3, LINE.arrows), (), (), (), 1, [("agree",)]))
        self.assertRaises(NoHand, board.standing, 0)

    def test_forty_hands(self):
        board = Board(ALL_TEN)
        self.assertEqual([board.hand() for _ in range(40)], list(range(40)))
        before = board_state(board)
        for _ in range(2):
            self.assertRaises(Full, board.hand)
            self.assertEqual(board_state(board), before)
        for h in range(40):
            board.turn(h, (h % 9, h % 9 + 1))
        self.assertEqual(board.touched(), tuple((k, k + 1) for k in range(9)))
        self.assertEqual(board.agree(), ALL_TEN.arrows)
        self.assertEqual(board.home().arrows, tuple(sorted((v, u) for u, v in ALL_TEN.arrows)))
        self.assertEqual([board.standing(h) for h in range(40)], [()] * 40)
        self.assertRaises(Full, board.hand)
        for _ in range(42):
            board.back()
        self.assertEqual(board.hand(), 39)
        self.assertEqual(board.log(), [("hand",)] * 40)

    def test_methods_without_a_result(self):
        board = Board(LINE)
        board.hand()
        self.assertIsNone(board.turn(0, (0, 1)))
        self.assertIsNone(board.untie((0, 2)))
        self.assertRaises(Closes, board.tie, 2, 0)
        self.assertIsNone(board.untie((1, 2)))
        self.assertIsNone(board.tie(2, 0))
        self.assertIsNone(board.back())

    def test_a_hand_of_a_new_age(self):
        board = Board(LINE)
        board.hand()
        board.turn(0, (0, 1))
        self.assertEqual(board.agree(), ((0, 1),))
        self.assertEqual(board.hand(), 1)
        board.turn(1, (1, 0))
        self.assertEqual((board.standing(0), board.standing(1)), ((), ((1, 0),)))
        self.assertEqual(board.log(), [("hand",), ("turn", 0, 0, 1), ("agree",), ("hand",), ("turn", 1, 1, 0)])
        self.assertEqual((board.age(), board.agree(), board.age()), (1, ((1, 0),), 2))
        self.assertTrue(board.home() == LINE)


class Ages(unittest.TestCase):
    def test_the_home_of_a_new_age(self):
        for seed, home in enumerate(some_homes()):
            source, board = Random(seed), Board(home)
            for _ in range(3):
                board.hand()
            for _ in range(30):
                if board.home().arrows:
                    told(board.turn, source.randrange(3), source.choice(board.home().arrows))
                if source.random() < 0.3:
                    before, joint = board.home(), board.joint()
                    answer = told(board.agree)
                    if joint is not None:
                        self.assertEqual(answer, joint)
                        self.assertTrue(board.home() == turned_home(before, joint))
                    else:
                        self.assertTrue(board.home() == before)

    def test_a_clash_changes_nothing(self):
        board = Board(ROUND)
        board.hand()
        board.hand()
        board.turn(0, (2, 1))
        board.turn(1, (0, 3))
        before = board_state(board)
        self.assertIsNone(board.joint())
        self.assertRaises(Clash, board.agree)
        self.assertEqual(board_state(board), before)
        board.turn(1, (0, 3))
        self.assertEqual(board.agree(), ((2, 1),))

    def test_what_nobody_touched_is_turned(self):
        board = Board(LINE)
        for arrow in ((0, 1), (1, 2)):
            board.turn(board.hand(), arrow)
        self.assertEqual((board.touched(), board.joint()), (((0, 1), (1, 2)), LINE.arrows))
        self.assertEqual(board.agree(), LINE.arrows)


class Ties(unittest.TestCase):
    def test_tied_for_all(self):
        board = Board(Home(4, ((0, 1), (1, 2))))
        board.hand()
        board.turn(0, (0, 1))
        board.tie(3, 0)
        self.assertEqual(board.home().arrows, ((0, 1), (1, 2), (3, 0)))
        self.assertEqual(board.standing(0), ((0, 1),))
        board.turn(0, (3, 0))
        self.assertEqual(board.standing(0), ((0, 1), (3, 0)))
        board.untie((0, 1))
        self.assertEqual((board.standing(0), board.touched()), (((3, 0),), ((3, 0),)))
        board.back()
        self.assertEqual(board.standing(0), ((0, 1), (3, 0)))
        board.back()
        board.back()
        self.assertEqual(board.home().arrows, ((0, 1), (1, 2)))

    def test_no_thing(self):
        board = Board(Home(3, ((0, 1),)))
        for thing in NO_NUMBERS + (3, 11):
            for other in (0, 2, None, thing):
                self.assertRaises(NoThing, board.tie, thing, other)
                self.assertRaises(NoThing, board.tie, other, thing)
        self.assertEqual(board.log(), [])

    def test_tied_ones(self):
        board = Board(Home(4, ((0, 1), (1, 2), (2, 3))))
        for u, v in ((0, 1), (1, 0), (2, 1), (0, 0), (3, 3)):
            self.assertRaises(Tied, board.tie, u, v)
        # Tied comes first, though a ring would be made, too.
        self.assertRaises(Tied, board.tie, 3, 2)
        self.assertEqual(board.log(), [])

    def closes(self, who, board, u, v):
        before = board_state(board)
        with self.assertRaises(Closes) as caught:
            board.tie(u, v)
        self.assertEqual(caught.exception.who, who)
        self.assertEqual(board_state(board), before)

    def test_rings_of_the_home_come_first(self):
        board = Board(Home(3, ((0, 1), (1, 2))))
        self.closes(-1, board, 2, 0)
        board.hand()
        board.hand()
        self.closes(-1, board, 2, 0)
        board.turn(1, (0, 1))
        board.turn(1, (1, 2))
        self.closes(-1, board, 2, 0)
        self.closes(1, board, 0, 2)
        board.turn(0, (1, 2))
        self.closes(1, board, 0, 2)
        board.turn(0, (0, 1))
        self.closes(0, board, 0, 2)
        board.turn(1, (0, 1))
        board.turn(0, (0, 1))
        self.assertIsNone(board.tie(0, 2))

    def test_the_least_hand(self):
        board = Board(Home(3, ((0, 1), (2, 1))))
        for h in range(4):
            board.hand()
        for h in (3, 1, 2):
            board.turn(h, (2, 1))
        self.closes(1, board, 2, 0)
        self.assertIsNone(board.tie(0, 2))
        board.back()
        board.turn(1, (2, 1))
        self.closes(2, board, 2, 0)

    def test_no_arrow(self):
        board = Board(LINE)
        board.hand()
        before = board_state(board)
        for thing in NO_ARROWS:
            self.assertRaises(NoArrow, board.untie, thing)
            self.assertRaises(NoArrow, board.turn, 0, thing)
        self.assertEqual(board_state(board), before)
        board.untie((0, 1))
        self.assertRaises(NoArrow, board.untie, (0, 1))
        self.assertRaises(NoArrow, board.turn, 0, (0, 1))

    def test_arrows_are_those_of_the_home_of_now(self):
        board = Board(LINE)
        board.turn(board.hand(), (0, 1))
        board.agree()
        self.assertRaises(NoArrow, board.turn, 0, (0, 1))
        self.assertRaises(NoArrow, board.untie, (0, 1))
        self.assertIsNone(board.turn(0, (1, 0)))
        board.back()
        board.back()
        self.assertRaises(NoArrow, board.turn, 0, (1, 0))
        self.assertEqual(board.standing(0), ((0, 1),))


class Refusals(unittest.TestCase):
    def setUp(self):
        self.board = Board(LINE)
        self.board.hand()
        self.board.hand()
        self.board.turn(1, (0, 1))

    def test_no_hand(self):
        before = board_state(self.board)
        for thing in NO_NUMBERS + (2, 3, 40):
            self.assertRaises(NoHand, self.board.standing, thing)
            for arrow in ((0, 1), None, (0, 2), [0, 1]):
                self.assertRaises(NoHand, self.board.turn, thing, arrow)
        self.assertEqual(board_state(self.board), before)

    def test_not_bare(self):
        before = board_state(self.board)
        with self.assertRaises(NotBare) as caught:
            self.board.turn(0, (0, 2))
        self.assertEqual(caught.exception.way, (0, 1, 2))
        with self.assertRaises(NotBare) as caught:
            self.board.turn(1, (1, 2))
        self.assertEqual(caught.exception.way, (1, 0, 2))
        self.assertEqual(board_state(self.board), before)

    def test_nothing_done(self):
        for _ in range(3):
            self.assertIsNone(self.board.back())
        for _ in range(2):
            self.assertRaises(NothingDone, self.board.back)
        self.assertEqual(board_state(self.board), board_state(Board(LINE)))

    def test_logs_are_new(self):
        log = self.board.log()
        log.append(("agree",))
        log[0] = None
        self.assertEqual(self.board.log(), [("hand",), ("hand",), ("turn", 1, 0, 1)])
        self.board.back()
        self.assertEqual(len(log), 4)

    def test_two_boards_of_one_home(self):
        other = Board(LINE)
        self.assertEqual(other.log(), [])
        self.board.untie((0, 2))
        self.assertEqual(len(other.home().arrows), 3)
        self.assertEqual(len(LINE.arrows), 3)
