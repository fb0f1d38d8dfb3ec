"""Point 9: quarrels of hands, and what is one."""

import unittest
from functools import lru_cache
from itertools import permutations

from tests import slow
from turnedapart.errors import NoHands
from turnedapart.homes import Home
from turnedapart.joints import is_quarrel, quarrel

LINE = Home(3, ((0, 1), (1, 2), (0, 2)))
ROUND = Home(4, ((0, 1), (2, 1), (2, 3), (0, 3)))
CLASH = (((2, 1),), ((0, 3),))
TOLD = ((0, 1, 2, 3), ((0, 1), (3, 0, 1, 2)), ((2, 3), (1, 2, 3, 0)))
# The round of ROUND with two more things: 4 hangs on 0, and 5 spans nothing.
WIDER = Home(6, ROUND.arrows + ((0, 4), (4, 5)))


@lru_cache(maxsize=None)
def quarrels():
    """Homes, hands that quarrel, and what they are told."""
    return tuple(_quarrels())


def _quarrels():
    for place, home in enumerate(slow.bad_homes()):
        for hands in slow.quarrelling(home, place, 4):
            yield home, hands, quarrel(home, hands)


def is_side(home, hands, ring, side):
    """Whether one side of a quarrel is what DOC.md says."""
    arrow, row = side
    near = list(zip(ring, ring[1:] + ring[:1]))
    between = arrow in home.arrows and (arrow in near or arrow[::-1] in near)
    if not between or arrow in slow.spanned(home, hands) or row not in slow.orders_of_all(home.many):
        return False
    standing = slow.standing_of(home, row)
    return standing in slow.joints(home, hands) and arrow not in standing


def is_right(home, hands, thing):
    ring, one, other = thing
    if ring not in slow.all_rings(home.many, slow.pairs_led(home, slow.spanned(home, hands))):
        return False
    return is_side(home, hands, ring, one) and is_side(home, hands, ring, other) and one[0] != other[0]


class Told(unittest.TestCase):
    def test_there_are_some(self):
        self.assertGreater(len(quarrels()), 60)

    def test_each_is_right(self):
        for home, hands, told in quarrels():
            self.assertTrue(is_right(home, hands, told), (home.arrows, hands, told))
            self.assertIs(is_quarrel(home, hands, told), True)
            self.assertEqual(quarrel(Home(home.many, home.arrows), hands), told)

    def test_none_if_there_is_a_least_one(self):
        for place, home in enumerate(slow.small_homes() + slow.bad_homes()):
            for hands in slow.some_hands(home, place, 4):
                if slow.one_least(slow.joints(home, hands)) is not None:
                    self.assertIsNone(quarrel(home, hands))
                    self.assertIs(is_quarrel(home, hands, None), False)

    def test_nothing_is_one_if_there_is_a_least_one(self):
        for hands in (((),), (ROUND.arrows,), CLASH[:1], CLASH + (ROUND.arrows,)):
            self.assertIs(is_quarrel(ROUND, hands, TOLD), False)

    def test_ten_things_and_forty_hands(self):
        home = Home(10, tuple((u, v) for u in range(5) for v in range(5, 10)))
        hands = tuple((home.arrows[k],) for k in (0, 6, 12, 18, 24)) * 8
        told = quarrel(home, hands)
        self.assertIs(is_quarrel(home, hands, told), True)

    def test_no_hands(self):
        for thing in slow.ODD_VALUES:
            if repr(thing) not in ("((),)", "(((0, 1),),)"):
                self.assertRaises(NoHands, quarrel, LINE, thing)
                self.assertRaises(NoHands, is_quarrel, LINE, thing, TOLD)
                self.assertRaises(NoHands, is_quarrel, LINE, thing, None)
        self.assertRaises(NoHands, quarrel, LINE, ((),) * 41)
        self.assertRaises(NoHands, quarrel, LINE, (((0, 2),),))


class Changed(unittest.TestCase):
    def judged(self, home, hands, thing):
        self.assertIs(is_quarrel(home, hands, thing), is_right(home, hands, thing), thing)

    def test_a_right_one(self):
        self.assertTrue(is_right(ROUND, CLASH, TOLD))
        self.assertIs(is_quarrel(ROUND, CLASH, TOLD), True)

    def test_other_rings(self):
        for home, hands, (ring, one, other) in quarrels()[::13]:
            for size in range(home.many + 1):
                for row in permutations(range(home.many), size):
                    self.judged(home, hands, (row, one, other))

    def test_rings_that_begin_elsewhere_or_go_the_other_way(self):
        for home, hands, (ring, one, other) in quarrels():
            for k in range(len(ring)):
                turned = ring[k:] + ring[:k]
                self.assertIs(is_quarrel(home, hands, (turned, one, other)), True)
                self.assertIs(is_quarrel(home, hands, (turned[::-1], one, other)), False)

    def test_other_arrows(self):
        for home, hands, (ring, one, other) in quarrels():
            for arrow in home.arrows:
                self.judged(home, hands, (ring, (arrow, one[1]), other))
                self.judged(home, hands, (ring, one, (arrow, other[1])))

    def test_spanned_arrows_and_such_that_are_not_between(self):
        ring, one, other = TOLD[0], ((0, 1), (3, 0, 1, 2, 4, 5)), ((2, 3), (1, 2, 3, 0, 4, 5))
        self.assertIs(is_quarrel(WIDER, CLASH, (ring, one, other)), True)
        for arrow in ((0, 3), (2, 1), (0, 4), (4, 5)):
            self.assertIn(arrow, WIDER.arrows)
            for row in permutations(range(6)):
                self.assertIs(is_quarrel(WIDER, CLASH, (ring, (arrow, row), other)), False)
                self.assertIs(is_quarrel(WIDER, CLASH, (ring, one, (arrow, row))), False)

    def test_other_orders(self):
        for home, hands, (ring, one, other) in quarrels()[::13]:
            for row in slow.orders_of_all(home.many):
                self.judged(home, hands, (ring, (one[0], row), other))
                self.judged(home, hands, (ring, one, (other[0], row)))

    def test_the_sides_swapped_and_alike(self):
        for home, hands, (ring, one, other) in quarrels():
            self.assertIs(is_quarrel(home, hands, (ring, other, one)), True)
            self.assertIs(is_quarrel(home, hands, (ring, one, one)), False)
            self.assertIs(is_quarrel(home, hands, (ring, other, other)), False)

    def test_other_hands(self):
        for home, hands, told in quarrels()[::5]:
            for others in slow.some_hands(home, 1, 5):
                self.judged(home, others, told)


class Kinds(unittest.TestCase):
    def wrong(self, thing):
        self.assertIs(is_quarrel(ROUND, CLASH, thing), False, thing)

    def test_values_of_every_kind(self):
        for thing in slow.ODD_VALUES:
            self.wrong(thing)
            for k in range(3):
                self.wrong(TOLD[:k] + (thing,) + TOLD[k + 1:])
            for k in range(2):
                self.wrong((TOLD[0], TOLD[1][:k] + (thing,) + TOLD[1][k + 1:], TOLD[2]))
                self.wrong((TOLD[0], TOLD[1], TOLD[2][:k] + (thing,) + TOLD[2][k + 1:]))

    def test_lists_and_sizes(self):
        ring, one, other = TOLD
        for thing in (list(TOLD), (list(ring), one, other), (ring, list(one), other), (ring, one, list(other)),
                      (ring, ([0, 1], one[1]), other), (ring, (one[0], list(one[1])), other), TOLD[:2], TOLD + (one,),
                      (ring, one + (one,), other), (ring, one[:1], other), (ring, one)):
            self.wrong(thing)

    def test_flags(self):
        ring, one, other = TOLD
        for thing in (((False, 1, 2, 3), one, other), ((0, True, 2, 3), one, other),
                      (ring, ((False, 1), one[1]), other), (ring, ((0, True), one[1]), other),
                      (ring, (one[0], (3, False, 1, 2)), other), (ring, one, (other[0], (True, 2, 3, 0)))):
            self.wrong(thing)

    def test_orders_that_are_none(self):
        ring, one, other = TOLD
        for row in ((3, 0, 1), (3, 0, 1, 2, 2), (3, 0, 1, 1), (3, 0, 1, 4), (3, 0, 1, 2, 4), ()):
            self.wrong((ring, (one[0], row), other))
