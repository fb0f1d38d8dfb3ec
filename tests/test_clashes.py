"""Point 14: hands that fit together, those that clash, and the hand that heals."""

import unittest
from itertools import combinations, product
from random import Random

from tests import slow
from turnedapart.clashes import clashes, fit, healer
from turnedapart.errors import NoHands, TooMany
from turnedapart.homes import Home, from_order

LINE = Home(3, ((0, 1), (1, 2), (0, 2)))
ROUND = Home(4, ((0, 1), (2, 1), (2, 3), (0, 3)))
NO_HANDS = [thing for thing in slow.ODD_VALUES if repr(thing) not in ("((),)", "(((0, 1),),)")]
NO_HANDS += [(((0, 2),),), ((),) * 41, [()], ((), [])]


def fits(home, hands):
    return tuple(slow.touched(hands)) in slow.standings(home)


def all_clashes(home, hands):
    """By the words alone: of all lots of hands, those that don't fit while each lesser one does."""
    numbers = range(len(hands))
    found = []
    for size in range(2, len(hands) + 1):
        for lot in combinations(numbers, size):
            lesser = [some for few in range(size) for some in combinations(lot, few)]
            if not fits(home, [hands[k] for k in lot]):
                if all(fits(home, [hands[k] for k in some]) for some in lesser):
                    found.append(lot)
    return sorted(found)


def beyond(home, hands):
    return len(set(slow.spanned(home, hands)) - set(slow.touched(hands)))


def homes_and_hands(seed):
    """Hands of one to six standings, some of them twice among them, and many of few arrows."""
    source = Random(seed)
    for place, home in enumerate(slow.small_homes()[::2] + slow.bad_homes()[::5] + tuple(slow.rounds_of_ties()[::3])):
        every = slow.standings(home)
        if place % 2:
            every = [standing for standing in every if len(standing) < 3]
        for many in range(1, 7):
            hands = [source.choice(every) for _ in range(many)]
            if many > 2:
                hands[source.randrange(many)] = hands[0]
            yield home, tuple(hands)


class Fit(unittest.TestCase):
    def test_against_all_lots(self):
        for home, hands in homes_and_hands(1):
            self.assertIs(fit(home, hands), fits(home, hands))

    def test_some(self):
        self.assertIs(fit(LINE, ((),)), True)
        self.assertIs(fit(LINE, (((0, 1),), ((1, 2),))), False)
        self.assertIs(fit(LINE, (((0, 1),), ((1, 2),), LINE.arrows)), True)
        self.assertIs(fit(ROUND, (((2, 1),), ((0, 3),))), False)

    def test_forty_hands_of_ten_things(self):
        home = Home(10, tuple(combinations(range(10), 2)))
        swapped = tuple(from_order(home, tuple(range(k)) + (k + 1, k) + tuple(range(k + 2, 10))) for k in range(9))
        self.assertIs(fit(home, swapped[::2] * 8), True)
        self.assertIs(fit(home, (swapped * 5)[:40]), False)

    def test_no_hands(self):
        for thing in NO_HANDS:
            self.assertRaises(NoHands, fit, LINE, thing)


class Clashes(unittest.TestCase):
    def test_against_all_lots_of_hands(self):
        sizes = set()
        for seed in range(3):
            for home, hands in homes_and_hands(seed):
                told = clashes(home, hands)
                self.assertEqual(told, all_clashes(home, hands))
                sizes |= {len(lot) for lot in told}
        self.assertLessEqual({2, 3}, sizes)

    def test_more_hands_may_fit_again(self):
        hands = (((0, 1),), ((1, 2),), ((0, 1), (0, 2)), ())
        self.assertIs(fit(LINE, hands), True)
        self.assertEqual(clashes(LINE, hands), [(0, 1)])

    def test_a_lot_above_one_that_does_not_fit_is_none(self):
        hands = (((0, 1),), ((1, 2),), ((1, 2),), ())
        self.assertEqual(clashes(LINE, hands), [(0, 1), (0, 2)])

    def test_three_of_which_each_two_fit(self):
        home = Home(6, ((0, 1), (2, 1), (2, 3), (4, 3), (4, 5), (0, 5)))
        hands = (((2, 1),), ((4, 3),), (), ((0, 5),), ((2, 1), (4, 3)))
        self.assertEqual(clashes(home, hands), [(0, 1, 3), (3, 4)])

    def test_one_hand_and_hands_alike(self):
        self.assertEqual(clashes(LINE, (LINE.arrows,)), [])
        self.assertEqual(clashes(LINE, (((0, 1),),) * 12), [])
        self.assertEqual(clashes(LINE, (((0, 1),),) * 2 + (((1, 2),),) * 2), [(0, 2), (0, 3), (1, 2), (1, 3)])

    def test_each_list_is_new(self):
        hands = (((0, 1),), ((1, 2),))
        clashes(LINE, hands).append((0,))
        self.assertEqual(clashes(LINE, hands), [(0, 1)])

    def test_twelve_hands_of_ten_things(self):
        across = Home(10, tuple(product(range(5), range(5, 10))))
        source = Random(3)
        hands = tuple(tuple(sorted(source.sample(across.arrows, 1))) for _ in range(12))
        told = clashes(across, hands)
        self.assertEqual(told, sorted(told))
        for lot in told:
            self.assertIs(fit(across, tuple(hands[k] for k in lot)), False)
            for out in lot:
                self.assertIs(fit(across, tuple(hands[k] for k in lot if k != out)), True)
        for one, other in combinations(range(12), 2):
            self.assertIs(fit(across, (hands[one], hands[other])), (one, other) not in told)

    def test_errors_in_their_order(self):
        for many in (13, 14, 40):
            with self.assertRaises(TooMany) as caught:
                clashes(LINE, ((),) * many)
            self.assertEqual(caught.exception.most, 12)
        self.assertRaises(NoHands, clashes, LINE, ((),) * 41)
        self.assertRaises(NoHands, clashes, LINE, ((),) * 13 + (((0, 2),),))
        for thing in NO_HANDS:
            self.assertRaises(NoHands, clashes, LINE, thing)


class Healer(unittest.TestCase):
    def test_against_all_ways(self):
        for seed in range(2):
            for home, hands in homes_and_hands(seed):
                if len(hands) > 1:
                    left = [beyond(home, hands[:k] + hands[k + 1:]) for k in range(len(hands))]
                    self.assertEqual(healer(home, hands), left.index(min(left)))

    def test_one_hand_alone(self):
        for standing in slow.standings(LINE):
            self.assertEqual(healer(LINE, (standing,)), -1)

    def test_hands_alike(self):
        self.assertEqual(healer(LINE, (((0, 1),),) * 40), 0)
        self.assertEqual(healer(LINE, ((), ())), 0)

    def test_the_least_index_among_equals(self):
        self.assertEqual(healer(LINE, (((0, 1),), ((1, 2),))), 0)
        self.assertEqual(healer(LINE, ((), ((0, 1),), ((1, 2),))), 1)
        self.assertEqual(healer(LINE, ((), (), ((1, 2),), ((0, 1),))), 2)

    def test_those_that_the_others_touch_do_not_count(self):
        hands = (((0, 1),), ((0, 1), (0, 2)), ((1, 2),))
        self.assertEqual(healer(LINE, hands), 0)
        self.assertEqual(beyond(LINE, hands[::2]), 1)

    def test_forty_hands(self):
        home = Home(10, tuple(combinations(range(10), 2)))
        swapped = tuple(from_order(home, tuple(range(k)) + (k + 1, k) + tuple(range(k + 2, 10))) for k in range(9))
        self.assertEqual(healer(home, (swapped * 5)[:40]), 0)
        self.assertEqual(healer(home, ((),) * 31 + swapped), 35)

    def test_no_hands(self):
        for thing in NO_HANDS:
            self.assertRaises(NoHands, healer, LINE, thing)
