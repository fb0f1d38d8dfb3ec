"""Points 6 to 14 for homes whose things are called anew, or all of whose arrows are turned: what goes by no
names goes along."""

import unittest
from itertools import combinations
from random import Random

from tests import slow
from turnedapart import clashes, counting, homes, joining, joints, mending, seen, spined, turns
from turnedapart.homes import Home


class Naming:
    """What a home's things, arrows and lots are called in another home; the arrows turned, if it is so."""

    def __init__(self, home, names, turned):
        self.home, self.names, self.turned = home, names, turned
        self.other = Home(home.many, tuple(self.arrow(arrow) for arrow in home.arrows))

    def arrow(self, arrow):
        u, v = (self.names[thing] for thing in arrow)
        return (v, u) if self.turned else (u, v)

    def lot(self, lot):
        return tuple(sorted(self.arrow(arrow) for arrow in lot))

    def lots(self, lots):
        return sorted(self.lot(lot) for lot in lots)

    def hands(self, hands):
        return tuple(self.lot(standing) for standing in hands)

    def things(self, things):
        return tuple(sorted(self.names[thing] for thing in things))

    def row(self, row):
        """A ring or a way, as it is led."""
        told = tuple(self.names[thing] for thing in row)
        return told[::-1] if self.turned else told


def namings(most_things=5):
    source = Random(1)
    some = slow.small_homes()[::2] + slow.bad_homes()[::3] + tuple(slow.random_home(6, seed, 0.6) for seed in range(6))
    for home in some:
        if home.many <= most_things:
            names = list(range(home.many))
            source.shuffle(names)
            yield Naming(home, names, False)
            yield Naming(home, list(range(home.many)), True)
            yield Naming(home, names, True)


def size(value):
    return None if value is None else len(value)


class Homes(unittest.TestCase):
    def test_lots_and_standings(self):
        for naming in namings():
            home, other = naming.home, naming.other
            for lot in slow.lots(home)[:200]:
                there = naming.lot(lot)
                self.assertEqual(homes.is_standing(home, lot), homes.is_standing(other, there))
                self.assertEqual(naming.lot(homes.led(home, lot)), homes.led(other, there))
                found = homes.ring(home, lot)
                self.assertEqual(size(found), size(homes.ring(other, there)))
                if found:
                    self.assertIn(naming.row(found), slow.all_rings(home.many, homes.led(other, there)))

    def test_ways(self):
        for naming in namings():
            for lot in slow.lots(naming.home)[::5][:40]:
                for u, v in combinations(range(naming.home.many), 2):
                    first, last = naming.row((u, v))
                    told = homes.way(naming.other, naming.lot(lot), first, last)
                    self.assertEqual(size(homes.way(naming.home, lot, u, v)), size(told))

    def test_bare_ones_and_blocks(self):
        for naming in namings(6):
            home, other = naming.home, naming.other
            self.assertEqual(sorted(map(naming.things, homes.blocks(home))), list(homes.blocks(other)))
            for standing in slow.standings(home)[:80]:
                there = naming.lot(standing)
                self.assertEqual(naming.lot(homes.bare(home, standing)), homes.bare(other, there))
                self.assertEqual(naming.lot(turns.alone(home, standing)), turns.alone(other, there))
                turned = homes.turned_home(home, standing)
                self.assertEqual(naming.lot(turned.arrows), homes.turned_home(other, there).arrows)

    def test_rows(self):
        for naming in namings():
            home, other = naming.home, naming.other
            for one, last in slow.some_pairs(slow.standings(home), 3, 6):
                there = naming.lot(one), naming.lot(last)
                row = tuple(naming.arrow(arrow) for arrow in turns.steps(home, one, last))
                self.assertIs(turns.is_steps(other, *there, row), True)
                self.assertEqual(turns.many_rows(home, one, last), turns.many_rows(other, *there))
                self.assertEqual(naming.lot(homes.seen_from(home, one, last)), homes.seen_from(other, *there))


class Hands(unittest.TestCase):
    def each(self):
        for place, naming in enumerate(namings()):
            home = naming.home
            for hands in slow.some_hands(home, place, 3) + slow.quarrelling(home, place, 2):
                yield naming, hands, naming.hands(hands)

    def test_joints(self):
        for naming, hands, there in self.each():
            home, other = naming.home, naming.other
            self.assertEqual(naming.lot(joints.spanned(home, hands)), joints.spanned(other, there))
            told = joints.joint(home, hands)
            self.assertEqual(None if told is None else naming.lot(told), joints.joint(other, there))
            self.assertEqual(naming.lots(joints.least_joints(home, hands)), joints.least_joints(other, there))
            self.assertEqual(joints.quarrel(home, hands) is None, joints.quarrel(other, there) is None)
            for arrow in home.arrows:
                reasons = joints.reason(home, hands, arrow), joints.reason(other, there, naming.arrow(arrow))
                self.assertEqual(size(reasons[0]), size(reasons[1]))

    def test_quarrels(self):
        for naming, hands, there in self.each():
            found = joints.quarrel(naming.home, hands)
            if found is not None:
                sides = tuple((naming.arrow(arrow), naming.row(order)) for arrow, order in found[1:])
                self.assertIs(joints.is_quarrel(naming.other, there, (naming.row(found[0]),) + sides), True)

    def test_what_is_kept(self):
        for naming, hands, there in self.each():
            for kept in slow.lots(naming.home)[::7][:10]:
                found = joints.kept_ring(naming.home, hands, kept)
                told = joints.kept_joint(naming.other, there, naming.lot(kept))
                self.assertEqual(found is None, told is not None)
                if found:
                    ring = naming.row(found)
                    self.assertIs(joints.is_kept_ring(naming.other, there, naming.lot(kept), ring), True)

    def test_clashes(self):
        for naming, hands, there in self.each():
            home, other = naming.home, naming.other
            self.assertEqual(clashes.fit(home, hands), clashes.fit(other, there))
            self.assertEqual(clashes.clashes(home, hands * 2), clashes.clashes(other, there * 2))
            self.assertEqual(clashes.healer(home, hands), clashes.healer(other, there))
            back = [tuple(len(hands) - 1 - k for k in lot[::-1]) for lot in clashes.clashes(home, hands)]
            self.assertEqual(sorted(back), clashes.clashes(home, hands[::-1]))


class Spined(unittest.TestCase):
    def test_spined_homes(self):
        for naming in namings(6):
            home, other = naming.home, naming.other
            self.assertEqual(spined.is_spined(home), spined.is_spined(other))
            self.assertEqual(spined.open_hands(home) is None, spined.open_hands(other) is None)
            found = spined.bad_part(home)
            if found is not None:
                self.assertIs(spined.is_bad_part(other, (naming.things(found[0]), naming.row(found[1]))), True)
                self.assertIs(spined.is_open_hands(other, naming.hands(spined.open_hands(home))), True)

    def test_joins_and_meets(self):
        for naming in namings():
            home, other = naming.home, naming.other
            for lot in slow.lots(home)[::3][:60]:
                told = joining.is_closed_twice(home, lot)
                self.assertEqual(told, joining.is_closed_twice(other, naming.lot(lot)))
            if spined.is_spined(home):
                self.assertEqual(joining.distributes(home), joining.distributes(other))
                for one, two in slow.some_pairs(slow.standings(home), 5, 6):
                    there = naming.lot(one), naming.lot(two)
                    self.assertEqual(naming.lot(joining.join(home, one, two)), joining.join(other, *there))
                    self.assertEqual(naming.lot(joining.meet(home, one, two)), joining.meet(other, *there))

    def test_mends(self):
        for naming in namings(6):
            home, other = naming.home, naming.other
            self.assertEqual(mending.fewest_ties(home), mending.fewest_ties(other))
            self.assertIs(mending.is_mend(other, naming.lot(mending.mend(home))), True)
            self.assertEqual(len(mending.fewest_things(home)), len(mending.fewest_things(other)))
            for things in slow.parts(home)[:-1:3]:
                left = mending.without(home, things), mending.without(other, naming.things(things))
                self.assertEqual(counting.many_standings(left[0]), counting.many_standings(left[1]))


class Counting(unittest.TestCase):
    def test_standings(self):
        for naming in namings(6):
            home, other = naming.home, naming.other
            every = counting.all_standings(home)
            self.assertEqual(naming.lots(every), counting.all_standings(other))
            for standing in every[::7]:
                self.assertEqual(counting.within(home, standing), counting.within(other, naming.lot(standing)))
            for colours in range(-5, 6):
                told = counting.colourings(home, colours)
                self.assertEqual(told, counting.colourings(other, colours))

    def test_seen_ties(self):
        source = Random(2)
        for naming in namings(6):
            home, other = naming.home, naming.other
            for _ in range(12):
                ties = tuple((arrow, source.random() < 0.5) for arrow in home.arrows if source.random() < 0.4)
                there = tuple(sorted((naming.arrow(arrow), flag) for arrow, flag in ties))
                self.assertIs(seen.is_seen(other, there), True)
                self.assertEqual(seen.fitting(home, ties), seen.fitting(other, there))
                told = seen.sure(home, ties)
                named = None if told is None else tuple(naming.lot(lot) for lot in told)
                self.assertEqual(named, seen.sure(other, there))

    def test_all_arrows_turned(self):
        for home in slow.small_homes():
            turned = homes.turned_home(home, home.arrows)
            lacking = [tuple(sorted(set(home.arrows) - set(lot))) for lot in counting.all_standings(home)]
            named = sorted(tuple(sorted((v, u) for u, v in lot)) for lot in lacking)
            self.assertEqual(counting.all_standings(turned), named)
