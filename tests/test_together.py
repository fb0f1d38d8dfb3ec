"""Points 8 to 11, 15 and 18 as they meet: boards, hands of their own, joint standings, spined homes and yards."""

import unittest
from itertools import combinations
from random import Random

from tests import slow
from tests.books import board_state, drawn_board, needs_of, refused, told
from turnedapart.board import Board
from turnedapart.errors import Clash
from turnedapart.hands import Hand
from turnedapart.homes import Home, seen_from, turned_home
from turnedapart.joining import join, meet
from turnedapart.joints import is_joint, joint, quarrel, spanned
from turnedapart.journals import journal, recovered
from turnedapart.spined import is_spined, open_hands
from turnedapart.stages import is_stages, stages
from turnedapart.yard import Yard


ROW = Home(4, ((0, 1), (1, 2), (2, 3), (0, 3)))


def spined_homes():
    return [home for home in slow.small_homes() + tuple(slow.rounds_of_ties()) if is_spined(home)][::2]


def spined_however_led():
    """Homes of whose blocks each has all its things tied, many of them or few."""
    tied = [Home(many, tuple(combinations(range(many), 2))) for many in (1, 2, 3, 5, 10)]
    beside = Home(9, tuple(combinations(range(4), 2)) + tuple(combinations(range(3, 7), 2)) + ((8, 6), (7, 8)))
    return tied + [beside, Home(10, tuple((k // 2, k) for k in range(1, 10))), Home(6, ())]


def some_homes():
    return slow.small_homes()[::2] + slow.bad_homes()[::3]


def turned_apart(home, seed, many=4, turns=24):
    """A board and hands of their own, who tried the same turns, and found the same."""
    source, board, own = Random(seed), Board(home), [Hand(home) for _ in range(many)]
    for hand in own:
        board.hand()
    for _ in range(turns if home.arrows else 0):
        h, arrow = source.randrange(many), source.choice(home.arrows)
        yield told(board.turn, h, arrow), told(own[h].turn, arrow)
    yield board, own


class HandsAtABoard(unittest.TestCase):
    def test_they_come_to_the_same(self):
        for seed, home in enumerate(some_homes()):
            *answers, (board, own) = turned_apart(home, seed)
            for one, other in answers:
                self.assertEqual(one, other)
            hands = tuple(hand.standing() for hand in own)
            self.assertEqual(hands, tuple(board.standing(h) for h in range(len(own))))
            turns = [item[1:] for item in board.log() if item[0] == "turn"]
            for h, hand in enumerate(own):
                self.assertEqual(hand.log(), [(u, v) for who, u, v in turns if who == h])
            self.assertEqual(board.touched(), tuple(slow.touched(hands)))
            self.assertEqual(board.joint(), joint(home, hands))

    def test_the_home_is_led_by_the_joint_standing(self):
        agreed = 0
        for seed, home in enumerate(some_homes()):
            *_, (board, own) = turned_apart(home, seed)
            hands = tuple(hand.standing() for hand in own)
            standing = joint(home, hands)
            if standing is None:
                self.assertIsNotNone(quarrel(home, hands))
                self.assertRaises(Clash, board.agree)
                self.assertTrue(board.home() == home)
                continue
            agreed += 1
            self.assertEqual(board.agree(), standing)
            self.assertEqual(standing, spanned(home, hands))
            self.assertIs(is_joint(home, hands, standing), True)
            self.assertTrue(board.home() == turned_home(home, standing))
            for h, hand in enumerate(own):
                self.assertEqual(board.standing(h), ())
                there = Hand(board.home())
                there.go_to(seen_from(home, standing, hand.standing()))
                hand.go_to(standing)
        self.assertGreater(agreed, 20)

    def test_hands_that_quarrel_at_a_home_that_is_not_spined(self):
        for home in slow.bad_homes():
            board = Board(home)
            for standing in open_hands(home):
                hand = Hand(home)
                hand.go_to(standing)
                h = board.hand()
                for arrow in hand.log():
                    board.turn(h, arrow)
                self.assertEqual(board.standing(h), standing)
            self.assertIsNone(board.joint())
            self.assertRaises(Clash, board.agree)


class SpinedBoards(unittest.TestCase):
    def ages(self, home, seed, most):
        """The homes and the standings of the hands ahead of each agreement, and the board behind it."""
        source, board = Random(seed), Board(home)
        for _ in range(4):
            board.hand()
        for age in range(most if home.arrows else 1):
            for _ in range(12 if home.arrows else 0):
                told(board.turn, source.randrange(4), source.choice(board.home().arrows))
            before, hands = board.home(), tuple(board.standing(h) for h in range(4))
            clashed = told(board.agree) == refused("Clash")
            yield before, hands, clashed, board

    def test_no_agreement_at_a_spined_home_is_a_clash(self):
        clashes = 0
        for seed, home in enumerate(spined_homes() * 4):
            for before, hands, clashed, board in self.ages(home, seed, 8):
                clashes += clashed
                if is_spined(before):
                    self.assertIs(clashed, False)
                    self.assertTrue(board.home() == turned_home(before, spanned(before, hands)))
        self.assertGreater(clashes, 0)

    def test_age_behind_age(self):
        for seed, home in enumerate(spined_however_led()):
            for before, hands, clashed, board in self.ages(home, seed, 8):
                self.assertIs(clashed, False)
                self.assertIs(is_spined(board.home()), True)
            self.assertEqual(board.age(), 8 if home.arrows else 1)

    def test_a_home_that_is_led_anew_may_not_be_spined(self):
        board = Board(ROW)
        board.turn(board.hand(), (1, 2))
        self.assertEqual(board.agree(), ((1, 2),))
        self.assertEqual((is_spined(ROW), is_spined(board.home())), (True, False))

    def test_two_hands_agree_on_the_join(self):
        for seed, home in enumerate(spined_homes()):
            for one, other in slow.some_pairs(slow.standings(home), seed, 6):
                board = Board(home)
                for standing in (one, other):
                    hand, h = Hand(home), board.hand()
                    hand.go_to(standing)
                    for arrow in hand.log():
                        board.turn(h, arrow)
                self.assertEqual(board.agree(), join(home, one, other))
                self.assertIs(is_joint(home, (meet(home, one, other),), one), True)


class YardsAndBoards(unittest.TestCase):
    def test_changed_over_to_what_was_agreed_on(self):
        changed = 0
        for seed, home in enumerate(some_homes()):
            *_, (board, own) = turned_apart(home, seed)
            standing, source = board.joint(), Random(seed)
            if standing is None:
                continue
            changed += 1
            needs = needs_of(home, ())
            yard = Yard(home, (), tuple((source.choice(needs), source.choice(needs)) for _ in range(4)))
            yard.lead(source.randrange(8))
            done = yard.change(board.agree())
            self.assertEqual(yard.lot(), standing)
            self.assertEqual(sorted(item[1:] for item in done if item[0] == "turn"), list(standing))
            self.assertEqual(yard.stuck(), ())
            self.assertTrue(turned_home(home, yard.lot()) == board.home())
            yard.lead(10000)
            self.assertEqual(yard.now(), ((2, 0),) * 4)
        self.assertGreater(changed, 20)

    def test_stages_to_what_was_agreed_on(self):
        for seed, home in enumerate(some_homes()):
            *_, (board, own) = turned_apart(home, seed, 3, 5)
            standing = board.joint()
            if standing is not None and len(standing) < 9:
                self.assertIs(is_stages(home, (), standing, stages(home, (), standing)), True)

    def test_journals_of_boards_that_agreed(self):
        for seed, home in enumerate(some_homes()[::2]):
            board, _ = drawn_board(home, seed, 20)
            other, many = recovered(home, journal(board))
            self.assertEqual(board_state(other), board_state(board))
            self.assertEqual(many, len(board.log()))
