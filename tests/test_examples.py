"""The examples of DOC.md, and the general rules 2 to 4 and 20, as far as there are modules for them."""

import unittest
from copy import deepcopy

from tests import slow
from turnedapart import errors, hands, homes, turns

ROW = homes.Home(4, ((0, 1), (1, 2), (2, 3), (0, 3)))
ROUND = homes.Home(4, ((0, 1), (2, 1), (2, 3), (0, 3)))
FUNCTIONS = {
    homes: "is_lot is_standing led order from_order bare blocks seen_from ring way turned_home",
    turns: "alone steps row_at is_steps many_rows",
}
CLASSES = {
    homes.Home: "__init__ __eq__",
    hands.Hand: "__init__ turn go_to back standing log copy",
}


class Examples(unittest.TestCase):
    def test_order(self):
        self.assertEqual(homes.order(ROW, ((0, 1),)), (1, 0, 2, 3))

    def test_ring(self):
        self.assertEqual(homes.ring(ROUND, ((0, 3), (2, 1))), (0, 1, 2, 3))

    def test_bare(self):
        self.assertEqual(homes.bare(ROW, ()), ((0, 1), (1, 2), (2, 3)))


class Interface(unittest.TestCase):
    def test_functions_stand_in_their_files(self):
        for module, names in FUNCTIONS.items():
            for name in names.split():
                self.assertEqual(getattr(module, name).__module__, module.__name__)

    def test_classes_have_their_methods(self):
        for own, names in CLASSES.items():
            for name in names.split():
                self.assertIn(name, vars(own))
        self.assertEqual((homes.Home.__module__, hands.Hand.__module__), ("turnedapart.homes", "turnedapart.hands"))


def answer(call, *values):
    try:
        return call(*values)
    except errors.TurnError as error:
        return type(error)


class GeneralRules(unittest.TestCase):
    def calls(self, thing):
        standing = ((0, 1),)
        yield homes.is_lot, (ROW, thing)
        yield homes.is_standing, (ROW, thing)
        for one_lot in (homes.led, homes.order, homes.from_order, homes.bare, homes.ring, homes.turned_home,
                        turns.alone):
            yield one_lot, (ROW, thing)
        for two in (homes.seen_from, turns.steps, turns.many_rows):
            yield two, (ROW, thing, standing)
            yield two, (ROW, standing, thing)
        for place in range(3):
            values = [(), 0, 3]
            values[place] = thing
            yield homes.way, (ROW, *values)
            values = [(), standing, 0]
            values[place] = thing
            yield turns.row_at, (ROW, *values)
            yield turns.is_steps, (ROW, *values)
        yield hands.Hand(ROW).turn, (thing,)
        yield hands.Hand(ROW).go_to, (thing,)
        yield homes.Home, (thing, ())
        yield homes.Home, (4, thing)

    def test_only_errors_of_the_package_and_nothing_changed(self):
        for thing in slow.ODD_VALUES + (slow.nested(30, list), [[(0, 1)]], {"a": [((0, 1),)]}):
            before = deepcopy(thing)
            for call, values in self.calls(thing):
                answer(call, *values)
                self.assertEqual(thing, before)

    def test_equal_calls_give_equal_results(self):
        for thing in slow.ODD_VALUES:
            for (call, values), (again, same) in zip(self.calls(thing), self.calls(deepcopy(thing))):
                self.assertEqual(answer(call, *values), answer(again, *same))

    def test_a_list_may_change_behind_its_error(self):
        kept = [(0, 1)]
        self.assertRaises(errors.NoStanding, turns.alone, ROW, kept)
        kept.append((1, 2))
        error = errors.BadHome(kept)
        kept.append((2, 3))
        self.assertEqual(error.part, [(0, 1), (1, 2), (2, 3)])
