"""Point 10: spined homes, their facts, and all homes of some ties."""

import unittest
from itertools import combinations, product
from random import Random

from tests import slow
from turnedapart.errors import NoNumber, NoTies, TooMany
from turnedapart.homes import Home, blocks, is_standing, turned_home
from turnedapart.joints import joint
from turnedapart.leads import all_leads
from turnedapart.spined import homes_of, is_spined, spined_of

ROW = Home(4, ((0, 1), (1, 2), (2, 3), (0, 3)))
ROUND = Home(4, ((0, 1), (2, 1), (2, 3), (0, 3)))
NO_NUMBERS = [thing for thing in slow.ODD_VALUES if repr(thing) not in ("1", "2")] + [11, -3, (4,), [4], "4"]
NO_TIES = [thing for thing in slow.ODD_VALUES if repr(thing) not in ("()", "((0, 1),)")]

# Of these ties there are just 996 and just 1004 homes.
TIES_996 = ((0, 3), (0, 5), (0, 7), (1, 2), (1, 4), (1, 6), (2, 5), (3, 5), (3, 6), (4, 6), (4, 7))
TIES_1004 = ((0, 1), (0, 5), (1, 4), (1, 6), (2, 3), (2, 4), (2, 6), (3, 5), (3, 7), (4, 5), (5, 6))


def one_for_all_pairs(home):
    """Whether any two standings have one least joint one, each taken as a number whose bits are its arrows."""
    every = [sum(1 << home.arrows.index(arrow) for arrow in lot) for lot in slow.standings(home)]
    for one, other in combinations(every, 2):
        shared = -1
        for standing in every:
            if standing & (one | other) == one | other:
                shared &= standing
        if shared not in every:
            return False
    return True


class IsSpined(unittest.TestCase):
    def test_examples(self):
        self.assertIs(is_spined(ROW), True)
        self.assertIs(is_spined(ROUND), False)

    def test_all_parts_and_rounds(self):
        homes = slow.homes_of_size(4) + slow.rounds_of_ties()
        for home in slow.small_homes() + slow.bad_homes() + tuple(homes):
            self.assertIs(is_spined(home), slow.is_spined(home), home.arrows)

    def test_five_and_six_things(self):
        for seed in range(80):
            home = slow.random_home(5 + seed % 5 // 4, seed, (seed % 7 + 2) / 9)
            self.assertIs(is_spined(home), slow.is_spined(home), home.arrows)

    def test_a_round_of_ten(self):
        for high in range(1, 10):
            one, other = list(range(high + 1)), [0] + list(range(high + 1, 10)) + [high]
            home = Home(10, tuple(zip(one, one[1:])) + tuple(zip(other, other[1:])))
            self.assertIs(is_spined(home), high in (1, 9), home.arrows)
            inner = Home(10, home.arrows[1:])
            self.assertIs(is_spined(inner), True)

    def test_arrows_that_are_bare_in_a_part_alone(self):
        self.assertIs(is_spined(Home(5, ROUND.arrows + ((0, 4), (4, 1)))), False)
        self.assertIs(is_spined(Home(5, ROUND.arrows + ((0, 4), (4, 1), (4, 2), (4, 3)))), False)
        self.assertIs(is_spined(Home(4, ROUND.arrows + ((0, 2),))), True)
        self.assertIs(is_spined(Home(4, ROUND.arrows + ((3, 1),))), True)

    def test_each_block_as_a_home_of_its_own(self):
        for seed in range(150):
            home = slow.random_home(5 + seed % 4, seed, 0.35)
            alone = [is_spined(slow.only_these(home, block)) for block in blocks(home)]
            self.assertIs(is_spined(home), all(alone))
            if not any(len(block) > 2 for block in blocks(home)):
                self.assertIs(is_spined(home), True)

    def test_all_things_tied(self):
        for many in range(1, 11):
            things = list(range(many))
            Random(many).shuffle(things)
            self.assertIs(is_spined(Home(many, tuple(combinations(things, 2)))), True)

    def test_no_arrows(self):
        for many in range(1, 11):
            self.assertIs(is_spined(Home(many, ())), True)

    def test_one_least_joint_standing_whatever_two_hands_do(self):
        homes = slow.homes_of_size(4)[::4] + slow.rounds_of_ties()
        for home in slow.small_homes()[::2] + slow.bad_homes()[::2] + tuple(homes):
            self.assertIs(is_spined(home), one_for_all_pairs(home), home.arrows)

    def test_many_hands_at_spined_homes(self):
        for seed in range(60):
            home = slow.random_home(8, seed, 0.6)
            if is_spined(home):
                orders = [Random(k).sample(range(8), 8) for k in range(3)]
                hands = tuple(slow.standing_of(home, row) for row in orders)
                self.assertTrue(is_standing(home, joint(home, hands)))

    def test_seen_from_all_arrows_turned(self):
        for home in slow.bad_homes() + slow.small_homes():
            self.assertIs(is_spined(turned_home(home, home.arrows)), is_spined(home))


def all_ties(many):
    pairs = list(combinations(range(many), 2))
    return [ties for size in range(len(pairs) + 1) for ties in combinations(pairs, size)]


def listed(many, ties):
    """The arrows of all homes of these ties, ascending."""
    rows = product(*[((u, v), (v, u)) for u, v in ties])
    return sorted(tuple(sorted(row)) for row in rows if not slow.rings(many, row))


class AllHomes(unittest.TestCase):
    def test_all_ties_of_small_homes(self):
        for many in range(1, 5):
            for ties in all_ties(many):
                self.assertEqual(homes_of(many, ties), listed(many, ties))

    def test_spined_ones(self):
        for many in range(1, 5):
            for ties in all_ties(many):
                right = [arrows for arrows in listed(many, ties) if slow.is_spined(Home(many, arrows))]
                self.assertEqual(spined_of(many, ties), right)

    def test_together_they_are_all(self):
        found = [arrows for ties in all_ties(4) for arrows in homes_of(4, ties)]
        self.assertEqual(sorted(found), sorted(home.arrows for home in slow.homes_of_size(4)))

    def test_five_things(self):
        for ties in (((0, 1), (0, 4), (1, 2), (2, 3), (3, 4)), ((0, 2), (0, 3), (1, 2), (1, 3), (3, 4))):
            self.assertEqual(homes_of(5, ties), listed(5, ties))
            self.assertEqual(spined_of(5, ties), [row for row in listed(5, ties) if slow.is_spined(Home(5, row))])

    def test_the_arrows_are_those_of_homes(self):
        for arrows in homes_of(4, ROUND.arrows[:1] + ((1, 2), (2, 3))):
            self.assertEqual(Home(4, arrows).arrows, arrows)
        self.assertEqual(homes_of(1, ()), [()])
        self.assertEqual(homes_of(10, ()), [()])
        self.assertEqual(homes_of(2, ((0, 1),)), [((0, 1),), ((1, 0),)])
        self.assertEqual(spined_of(10, ((8, 9),)), [((8, 9),), ((9, 8),)])

    def test_each_list_is_new(self):
        homes_of(2, ((0, 1),)).append(None)
        spined_of(2, ((0, 1),)).append(None)
        self.assertEqual(len(homes_of(2, ((0, 1),))), 2)
        self.assertEqual(len(spined_of(2, ((0, 1),))), 2)

    def test_just_as_many_as_may_be(self):
        self.assertEqual(len(set(homes_of(8, TIES_996))), 996)
        self.assertEqual(len(set(homes_of(10, TIES_996))), 996)
        self.assertEqual(spined_of(8, TIES_996), [row for row in homes_of(8, TIES_996) if is_spined(Home(8, row))])
        self.assertEqual(len(homes_of(10, tuple(combinations(range(3, 9), 2)))), 720)
        self.assertEqual(len(spined_of(10, tuple(combinations(range(3, 9), 2)))), 720)
        self.assertEqual(len(spined_of(10, tuple((k, k + 1) for k in range(9)))), 512)

    def test_just_more(self):
        ten_round = tuple(sorted([(k, k + 1) for k in range(9)] + [(0, 9)]))
        for many, ties in ((8, TIES_1004), (10, ten_round), (10, tuple(combinations(range(10), 2)))):
            for call in (homes_of, spined_of):
                with self.assertRaises(TooMany) as caught:
                    call(many, ties)
                self.assertEqual(caught.exception.most, 1000)

    def test_the_limit_itself(self):
        # No ties have just 1000 homes, it seems: so the limit is tried where there are few.
        for many in range(2, 6):
            pairs = tuple(combinations(range(many), 2))
            homes = len(homes_of(many, pairs))
            self.assertEqual(len(all_leads(many, pairs, homes)), homes)
            self.assertRaises(TooMany, all_leads, many, pairs, homes - 1)

    def test_no_number(self):
        for call in (homes_of, spined_of):
            for thing in NO_NUMBERS:
                self.assertRaises(NoNumber, call, thing, ())
                self.assertRaises(NoNumber, call, thing, None)
            self.assertRaises(NoNumber, call, 11, tuple(combinations(range(10), 2)))

    def test_no_ties(self):
        wrong = [((1, 0),), ((0, 1), (1, 0)), ((0, 2), (0, 1)), ((0, 1), (0, 1)), ((1, 2), (0, 1)), ((0, 3),),
                 ((0, 0),), [(0, 1)], ([0, 1],), ((False, 1),), ((0, True),), ((0, 1, 2),), ((-1, 0),), (0, 1)]
        for call in (homes_of, spined_of):
            for thing in NO_TIES + wrong:
                self.assertRaises(NoTies, call, 3, thing)
            self.assertRaises(NoTies, call, 1, ((0, 1),))
            self.assertRaises(NoTies, call, 10, tuple(combinations(range(10), 2)) + ((9, 10),))
            self.assertRaises(NoTies, call, 10, tuple(combinations(range(10), 2))[::-1])
            self.assertRaises(NoTies, call, 10, list(combinations(range(10), 2)))
