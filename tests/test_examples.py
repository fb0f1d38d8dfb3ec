"""The examples of DOC.md, and the general rules 2 to 4 and 20, as far as there are modules for them."""

import unittest
from copy import deepcopy

from tests import slow
from turnedapart import errors, hands, homes, joining, joints, mending, spined, turns

ROW = homes.Home(4, ((0, 1), (1, 2), (2, 3), (0, 3)))
ROUND = homes.Home(4, ((0, 1), (2, 1), (2, 3), (0, 3)))
FUNCTIONS = {
    homes: "is_lot is_standing led order from_order bare blocks seen_from ring way turned_home",
    turns: "alone steps row_at is_steps many_rows",
    joints: "is_hands is_joint is_quarrel is_kept_ring spanned reason joint quarrel kept_joint kept_ring least_joints",
    spined: "is_spined is_bad_part is_open_hands bad_part open_hands homes_of spined_of",
    joining: "join meet is_closed_twice distributes",
    mending: "is_mend fewest_ties mend fewest_things without",
}
CLASSES = {
    homes.Home: "__init__ __eq__",
    hands.Hand: "__init__ turn go_to back standing log copy",
}


class Examples(unittest.TestCase):
    def test_order(self):
        self.assertEqual(homes.order(ROW, ((0, 1),)), (1, 0, 2, 3))

    def test_ring(self):
        self.assertEqual(homes.ring(ROUND, ((0, 3), (2, 1))), (0, 1, 2, 3))

    def test_bare(self):
        self.assertEqual(homes.bare(ROW, ()), ((0, 1), (1, 2), (2, 3)))


    def test_joints(self):
        turned = (((0, 1),), ((1, 2),), ((2, 3),))
        self.assertEqual(joints.spanned(ROW, turned), ((0, 1), (0, 3), (1, 2), (2, 3)))
        self.assertEqual(joints.reason(ROW, turned, (0, 3)), (0, 1, 2, 3))
        self.assertEqual(joints.joint(ROW, turned[:2]), ((0, 1), (1, 2)))
        self.assertIsNone(joints.joint(ROUND, (((2, 1),), ((0, 3),))))

    def test_spined(self):
        self.assertEqual((spined.is_spined(ROW), spined.is_spined(ROUND)), (True, False))


class Interface(unittest.TestCase):
    def test_functions_stand_in_their_files(self):
        for module, names in FUNCTIONS.items():
            for name in names.split():
                self.assertEqual(getattr(module, name).__module__, module.__name__)

    def test_classes_have_their_methods(self):
        for own, names in CLASSES.items():
            for name in names.split():
                self.assertIn(name, vars(own))
        self.assertEqual((homes.Home.__module__, hands.Hand.__module__), ("turnedapart.homes", "turnedapart.hands"))


def answer(call, *values):
    try:
        return call(*values)
    except errors.TurnError as error:
        return type(error)


class GeneralRules(unittest.TestCase):
    def calls(self, thing):
        standing = ((0, 1),)
        yield homes.is_lot, (ROW, thing)
        yield homes.is_standing, (ROW, thing)
        for one_lot in (homes.led, homes.order, homes.from_order, homes.bare, homes.ring, homes.turned_home,
                        turns.alone):
            yield one_lot, (ROW, thing)
        for two in (homes.seen_from, turns.steps, turns.many_rows):
            yield two, (ROW, thing, standing)
            yield two, (ROW, standing, thing)
        for place in range(3):
            values = [(), 0, 3]
            values[place] = thing
            yield homes.way, (ROW, *values)
            values = [(), standing, 0]
            values[place] = thing
            yield turns.row_at, (ROW, *values)
            yield turns.is_steps, (ROW, *values)
        yield from self.calls_with_hands(thing)
        yield from self.calls_at_spined_homes(thing)
        yield hands.Hand(ROW).turn, (thing,)
        yield hands.Hand(ROW).go_to, (thing,)
        yield homes.Home, (thing, ())
        yield homes.Home, (4, thing)

    def calls_with_hands(self, thing):
        for home in (ROW, ROUND):
            for by_hands in (joints.spanned, joints.joint, joints.quarrel, joints.least_joints):
                yield by_hands, (home, thing)
                yield by_hands, (home, (thing,))
            yield joints.is_hands, (home, thing)
            for place in range(2):
                values = [((), ((0, 1),)), ((0, 1),)]
                values[place] = thing
                for two in (joints.is_joint, joints.is_quarrel, joints.kept_joint, joints.kept_ring):
                    yield two, (home, *values)
                yield joints.is_kept_ring, (home, *values, None)
            yield joints.is_kept_ring, (home, ((),), ((0, 1),), thing)
            yield joints.reason, (home, (((0, 1),),), thing)
            yield joints.reason, (home, thing, (0, 1))

    def calls_at_spined_homes(self, thing):
        for home in (ROW, ROUND):
            for one in (spined.is_bad_part, spined.is_open_hands, joining.is_closed_twice, mending.is_mend,
                        mending.without):
                yield one, (home, thing)
            for two in (joining.join, joining.meet):
                yield two, (home, thing, ())
                yield two, (home, (), thing)
            for plain in (spined.bad_part, spined.open_hands, joining.distributes, mending.mend, mending.fewest_ties,
                          mending.fewest_things):
                yield plain, (home,)
        for call in (spined.homes_of, spined.spined_of):
            yield call, (thing, ())
            yield call, (3, thing)

    def test_only_errors_of_the_package_and_nothing_changed(self):
        for thing in slow.ODD_VALUES + (slow.nested(30, list), [[(0, 1)]], {"a": [((0, 1),)]}):
            before = deepcopy(thing)
            for call, values in self.calls(thing):
                answer(call, *values)
                self.assertEqual(thing, before)

    def test_equal_calls_give_equal_results(self):
        for thing in slow.ODD_VALUES:
            for (call, values), (again, same) in zip(self.calls(thing), self.calls(deepcopy(thing))):
                self.assertEqual(answer(call, *values), answer(again, *same))

    def test_a_list_may_change_behind_its_error(self):
        kept = [(0, 1)]
        self.assertRaises(errors.NoStanding, turns.alone, ROW, kept)
        kept.append((1, 2))
        error = errors.BadHome(kept)
        kept.append((2, 3))
        self.assertEqual(error.part, [(0, 1), (1, 2), (2, 3)])
