"""Point 9: hands, what they span, reasons, joint standings, and what is kept."""

import unittest
from functools import lru_cache
from itertools import combinations, permutations

from tests import slow
from turnedapart.errors import NoArrow, NoHands, NoLot, TooMany
from turnedapart.homes import Home, from_order
from turnedapart.joints import (is_hands, is_joint, is_kept_ring, joint, kept_joint, kept_ring, least_joints, reason,
                                spanned)

LINE = Home(3, ((0, 1), (1, 2), (0, 2)))
ROUND = Home(4, ((0, 1), (2, 1), (2, 3), (0, 3)))
CLASH = (((2, 1),), ((0, 3),))
NO_HANDS = [thing for thing in slow.ODD_VALUES if repr(thing) not in ("((),)", "(((0, 1),),)")]
NO_LOTS = [thing for thing in slow.ODD_VALUES if repr(thing) not in ("()", "((0, 1),)")]
NO_ARROWS = [thing for thing in slow.ODD_VALUES if repr(thing) != "(0, 1)"] + [(1, 0), (0, 3)]


@lru_cache(maxsize=None)
def homes_and_hands():
    return tuple(_homes_and_hands())


def _homes_and_hands():
    for place, home in enumerate(slow.small_homes() + tuple(slow.rounds_of_ties()) + slow.bad_homes()[::3]):
        for hands in slow.some_hands(home, place, 4) + slow.quarrelling(home, place, 3):
            yield home, hands


class IsHands(unittest.TestCase):
    def test_how_many(self):
        for many in range(43):
            self.assertIs(is_hands(LINE, ((),) * many), 1 <= many <= 40)
            self.assertIs(is_hands(LINE, (((0, 1),),) * many), 1 <= many <= 40)

    def test_all_lots_of_small_homes(self):
        for home in slow.small_homes():
            every = slow.standings(home)
            for lot in slow.lots(home):
                self.assertIs(is_hands(home, (lot,)), lot in every)
                self.assertIs(is_hands(home, ((), lot)), lot in every)
                self.assertIs(is_hands(home, (lot,) + every[:39]), lot in every)

    def test_kinds(self):
        for thing in ([()], [((0, 1),)], ([],), ([(0, 1)],), (([0, 1],),), (((False, 1),),), (((0, True),),),
                      ((), None), ((), ((0, 2),)), ((), ((1, 0),)), (((1, 2), (0, 1)),), (((0, 1), (0, 1)),)):
            self.assertIs(is_hands(LINE, thing), False, thing)
        for thing in NO_HANDS:
            self.assertIs(is_hands(LINE, thing), False)
            self.assertIs(is_hands(LINE, ((), thing)), repr(thing) in ("()", "((0, 1),)"))


class Spanned(unittest.TestCase):
    def test_against_all_ways(self):
        for home, hands in homes_and_hands():
            self.assertEqual(spanned(home, hands), slow.spanned(home, hands))

    def test_what_all_joint_standings_have(self):
        for home, hands in homes_and_hands():
            shared = [arrow for arrow in home.arrows if all(arrow in lot for lot in slow.joints(home, hands))]
            self.assertEqual(spanned(home, hands), tuple(shared))

    def test_some(self):
        self.assertEqual(spanned(LINE, ((),)), ())
        self.assertEqual(spanned(LINE, (((0, 1),), ((1, 2),))), ((0, 1), (0, 2), (1, 2)))
        self.assertEqual(spanned(LINE, (((0, 1),), ((0, 1), (0, 2)))), ((0, 1), (0, 2)))
        self.assertEqual(spanned(ROUND, CLASH), ((0, 3), (2, 1)))

    def test_forty_hands_of_ten_things(self):
        home = Home(10, tuple(combinations(range(10), 2)))
        hands = tuple(from_order(home, (k + 1, k) + tuple(x for x in range(10) if x not in (k, k + 1)))
                      for k in range(9)) + ((),) * 31
        self.assertEqual(spanned(home, hands), home.arrows)
        self.assertEqual(joint(home, hands), home.arrows)

    def test_no_hands(self):
        for thing in NO_HANDS + [(((0, 2),),), ((),) * 41]:
            self.assertRaises(NoHands, spanned, LINE, thing)


class Reason(unittest.TestCase):
    def test_against_all_ways(self):
        for home, hands in homes_and_hands():
            for arrow in home.arrows:
                ways = slow.ways(home.many, slow.touched(hands), *arrow)
                self.assertEqual(reason(home, hands, arrow), ways[0] if ways else None)

    def test_the_shortest_comes_before_the_least(self):
        home = Home(6, ((0, 1), (1, 2), (2, 5), (0, 4), (4, 5), (0, 3), (3, 5), (0, 5)))
        hands = (((0, 1), (1, 2)), ((2, 5),), ((0, 4),), ((4, 5),))
        self.assertEqual(reason(home, hands, (0, 5)), (0, 4, 5))
        self.assertEqual(reason(home, hands + (((0, 3),), ((3, 5),)), (0, 5)), (0, 3, 5))
        self.assertEqual(reason(home, hands[:2], (0, 5)), (0, 1, 2, 5))
        self.assertEqual(reason(home, hands + (home.arrows,), (0, 5)), (0, 5))
        self.assertIsNone(reason(home, hands[1:2], (0, 5)))
        self.assertIsNone(reason(home, ((),), (0, 5)))

    def test_no_arrow(self):
        for thing in NO_ARROWS:
            self.assertRaises(NoArrow, reason, LINE, ((),), thing)
            self.assertRaises(NoHands, reason, LINE, (), thing)
        for thing in NO_HANDS:
            self.assertRaises(NoHands, reason, LINE, thing, (0, 1))


class Joint(unittest.TestCase):
    def test_against_a_listing(self):
        for home, hands in homes_and_hands():
            joints = slow.joints(home, hands)
            self.assertEqual(joint(home, hands), slow.one_least(joints))
            for lot in slow.lots(home)[:64]:
                self.assertIs(is_joint(home, hands, lot), lot in joints)

    def test_the_fact(self):
        for home, hands in homes_and_hands():
            lot = spanned(home, hands)
            self.assertEqual(joint(home, hands), lot if lot in slow.standings(home) else None)

    def test_is_joint_of_values_of_every_kind(self):
        for thing in slow.ODD_VALUES:
            self.assertIs(is_joint(LINE, ((),), thing), repr(thing) in ("()", "((0, 1),)"))
            self.assertIs(is_joint(LINE, (((0, 1),),), thing), repr(thing) == "((0, 1),)")
        for thing in ([(0, 1)], ((False, 1),), ((0, 1), (0, 1)), ((0, 2), (0, 1)), ((0, 2),)):
            self.assertIs(is_joint(LINE, ((),), thing), False)

    def test_no_hands(self):
        for thing in NO_HANDS:
            self.assertRaises(NoHands, joint, LINE, thing)
            self.assertRaises(NoHands, is_joint, LINE, thing, ())
            self.assertRaises(NoHands, is_joint, LINE, thing, None)


class LeastJoints(unittest.TestCase):
    def test_against_a_listing(self):
        for home, hands in homes_and_hands():
            self.assertEqual(least_joints(home, hands), slow.least_of(slow.joints(home, hands)))

    def test_two_least_ones(self):
        self.assertEqual(least_joints(ROUND, CLASH), [((0, 1), (0, 3), (2, 1)), ((0, 3), (2, 1), (2, 3))])
        self.assertEqual(least_joints(ROUND, ((),)), [()])
        self.assertEqual(least_joints(Home(1, ()), ((),)), [()])

    def test_seven_things(self):
        home = Home(7, tuple(combinations(range(7), 2)))
        self.assertEqual(least_joints(home, ((),)), [()])
        self.assertEqual(least_joints(home, (home.arrows,) * 40), [home.arrows])
        across = Home(7, tuple((u, v) for u in range(3) for v in range(3, 7)))
        hands = (((0, 3),), ((1, 4),), ((2, 5),))
        found = least_joints(across, hands)
        self.assertGreater(len(found), 1)
        self.assertEqual(found, sorted(found))
        self.assertTrue(all(is_joint(across, hands, standing) for standing in found))

    def test_each_list_is_new(self):
        found = least_joints(ROUND, CLASH)
        found.append(None)
        self.assertEqual(len(least_joints(ROUND, CLASH)), 2)

    def test_eight_things_are_too_many(self):
        for many in (8, 9, 10):
            home = Home(many, ((0, 1),))
            with self.assertRaises(TooMany) as caught:
                least_joints(home, ((),))
            self.assertEqual(caught.exception.most, 7)
            for thing in NO_HANDS:
                self.assertRaises(NoHands, least_joints, home, thing)


def kept_pairs(hands, kept):
    return {(v, u) for u, v in slow.touched(hands)} | set(kept)


class Kept(unittest.TestCase):
    def each(self):
        for place, (home, hands) in enumerate(homes_and_hands()):
            for kept in slow.lots(home)[place % 5::5][:24]:
                yield home, hands, kept

    def test_just_one_is_none(self):
        for home, hands, kept in self.each():
            joints = [lot for lot in slow.joints(home, hands) if not set(lot) & set(kept)]
            standing = kept_joint(home, hands, kept)
            ring = kept_ring(home, hands, kept)
            if joints:
                self.assertIn(standing, joints)
                self.assertIsNone(ring)
            else:
                self.assertIsNone(standing)
                self.assertIs(is_kept_ring(home, hands, kept, ring), True)

    def test_rings_against_all_rows(self):
        for home, hands, kept in list(self.each())[::29]:
            right = slow.all_rings(home.many, kept_pairs(hands, kept))
            for size in range(home.many + 1):
                for row in permutations(range(home.many), size):
                    self.assertIs(is_kept_ring(home, hands, kept, row), row in right)

    def test_a_ring_of_two(self):
        hands = (((0, 1),),)
        self.assertIsNone(kept_joint(LINE, hands, ((0, 1),)))
        self.assertEqual(sorted(kept_ring(LINE, hands, ((0, 1),))), [0, 1])
        self.assertIs(is_kept_ring(LINE, hands, ((0, 1),), (0, 1)), True)
        self.assertIs(is_kept_ring(LINE, hands, ((0, 1),), (1, 0)), True)
        self.assertIs(is_kept_ring(LINE, hands, ((0, 1),), (0,)), False)
        self.assertIs(is_kept_ring(LINE, hands, ((0, 1),), ()), False)

    def test_a_ring_of_three_and_four(self):
        hands = (((0, 1),), ((1, 2),))
        self.assertIs(is_kept_ring(LINE, hands, ((0, 2),), kept_ring(LINE, hands, ((0, 2),))), True)
        for row in permutations(range(3)):
            self.assertIs(is_kept_ring(LINE, hands, ((0, 2),), row), row in ((0, 2, 1), (2, 1, 0), (1, 0, 2)))
        kept = ((0, 1), (2, 3))
        self.assertIsNone(kept_joint(ROUND, CLASH, kept))
        self.assertIs(is_kept_ring(ROUND, CLASH, kept, (0, 1, 2, 3)), True)
        self.assertIs(is_kept_ring(ROUND, CLASH, kept, (2, 3, 0, 1)), True)
        self.assertIs(is_kept_ring(ROUND, CLASH, kept, (3, 2, 1, 0)), False)
        self.assertEqual(kept_joint(ROUND, CLASH, kept[:1]), ((0, 3), (2, 1), (2, 3)))

    def test_neither_touched_nor_kept_is_no_ring(self):
        self.assertIs(is_kept_ring(ROUND, CLASH, ((0, 1),), (0, 1, 2, 3)), False)
        self.assertIs(is_kept_ring(ROUND, CLASH[:1], ((0, 1), (2, 3)), (0, 1, 2, 3)), False)

    def test_values_of_every_kind(self):
        hands, kept = (((0, 1),),), ((0, 1),)
        for thing in slow.ODD_VALUES:
            self.assertIs(is_kept_ring(LINE, hands, kept, thing), repr(thing) == "(1, 0)", thing)
            self.assertIs(is_kept_ring(LINE, hands, (), thing), False)
        for thing in ([0, 1], (False, True), (0, True), (False, 1), (0, 1, 0, 1), (0, 1, 2), (0, 3), (0, -2)):
            self.assertIs(is_kept_ring(LINE, hands, kept, thing), False)

    def test_errors_in_their_order(self):
        for call in (kept_joint, kept_ring, lambda *values: is_kept_ring(*values, None)):
            for thing in NO_LOTS:
                self.assertRaises(NoLot, call, LINE, ((),), thing)
                self.assertRaises(NoHands, call, LINE, (), thing)
                self.assertRaises(NoHands, call, LINE, (((0, 2),),), thing)
            for thing in NO_HANDS:
                self.assertRaises(NoHands, call, LINE, thing, ())
                self.assertRaises(NoHands, call, LINE, thing, None)
        # A lot that is no standing may be kept.
        self.assertEqual(kept_joint(LINE, ((),), ((0, 2),)), ())
