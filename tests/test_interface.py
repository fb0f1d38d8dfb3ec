"""Point 20, the interface, and the general rules 2 to 4."""

import inspect
import unittest
from copy import deepcopy
from importlib import import_module

from tests import slow
from turnedapart import board, errors, hands, homes, turns, yard

ROW = homes.Home(4, ((0, 1), (1, 2), (2, 3), (0, 3)))
ROUND = homes.Home(4, ((0, 1), (2, 1), (2, 3), (0, 3)))
FUNCTIONS = {
    "homes": """is_lot(home, thing) is_standing(home, thing) led(home, lot) order(home, standing) from_order(home, order)
        bare(home, standing) blocks(home) seen_from(home, standing, other) ring(home, lot) way(home, lot, u, v)
        turned_home(home, standing)""",
    "turns": """alone(home, standing) steps(home, one, other) row_at(home, one, other, index)
        is_steps(home, one, other, thing) many_rows(home, one, other)""",
    "joints": """is_hands(home, thing) is_joint(home, hands, thing) is_quarrel(home, hands, thing)
        is_kept_ring(home, hands, kept, thing) spanned(home, hands) reason(home, hands, arrow) joint(home, hands)
        quarrel(home, hands) kept_joint(home, hands, kept) kept_ring(home, hands, kept) least_joints(home, hands)""",
    "spined": """is_spined(home) is_bad_part(home, thing) is_open_hands(home, thing) bad_part(home) open_hands(home)
        homes_of(many, ties) spined_of(many, ties)""",
    "joining": "join(home, one, other) meet(home, one, other) is_closed_twice(home, lot) distributes(home)",
    "mending": "is_mend(home, thing) fewest_ties(home) mend(home) fewest_things(home) without(home, things)",
    "counting": """all_standings(home) many_standings(home) colourings(home, colours) within(home, standing)
        index_of(home, standing) standing_at(home, index)""",
    "clashes": "fit(home, hands) clashes(home, hands) healer(home, hands)",
    "seen": "is_seen(home, thing) sure(home, seen) fitting(home, seen) next_look(home, seen)",
    "allruns": """stuck_run(home, lot, crews) made_stuck(home, lot) is_stuck_run(home, lot, crews, thing)
        is_made_stuck(home, lot, thing) many_runs(home, lot, crews)""",
    "stages": "stages(home, one, other) is_stages(home, one, other, thing)",
    "journals": "journal(board) recovered(home, text)",
}
CLASSES = {
    "homes": "Home(many, arrows) __eq__(other)",
    "hands": "Hand(home) turn(arrow) go_to(standing) back() standing() log() copy()",
    "yard": """Yard(home, lot, crews) take(c) leave(c) now() holds(c) holder(thing) lot() waits() stuck() lead(most)
        turn(arrow) change(standing) log() back() copy()""",
    "board": """Board(home) hand() turn(h, arrow) standing(h) touched() joint() agree() age() home() tie(u, v) untie(arrow)
        log() back() copy()""",
}


def told_in(text):
    """The names of a text of calls, each with the list of its arguments."""
    for call in text.replace(")", ")\n").splitlines():
        if call.strip():
            name, _, rest = call.strip().partition("(")
            yield name, [word.strip() for word in rest.rstrip(")").split(",") if word]


class Interface(unittest.TestCase):
    def arguments(self, call):
        told = inspect.signature(call).parameters.values()
        self.assertTrue(all(one.kind is one.POSITIONAL_OR_KEYWORD and one.default is one.empty for one in told), call)
        return [one.name for one in told]

    def test_functions_stand_in_their_files(self):
        for place, text in FUNCTIONS.items():
            module = import_module("turnedapart." + place)
            for name, arguments in told_in(text):
                call = vars(module)[name]
                self.assertTrue(inspect.isfunction(call))
                self.assertEqual(call.__module__, module.__name__)
                self.assertEqual(self.arguments(call), arguments, name)

    def test_classes_have_their_methods(self):
        for place, text in CLASSES.items():
            module = import_module("turnedapart." + place)
            (name, arguments), *methods = told_in(text)
            own = vars(module)[name]
            self.assertEqual((own.__module__, self.arguments(own)), (module.__name__, arguments))
            for method, more in methods:
                self.assertEqual(self.arguments(vars(own)[method])[1:], more, method)

    def test_attributes_of_homes(self):
        self.assertEqual(vars(ROW), {"many": 4, "arrows": ((0, 1), (0, 3), (1, 2), (2, 3))})


RIGHT = {"lot": ((0, 1), (1, 2)), "standing": ((0, 1),), "order": (3, 1, 0, 2), "u": 0, "v": 3, "one": (), "index": 0,
         "other": ((0, 1), (1, 2)), "hands": (((0, 1),), ((1, 2),)), "arrow": (0, 1), "kept": ((2, 3),), "many": 4,
         "ties": ((0, 1), (1, 2)), "things": (2,), "colours": 3, "seen": (((0, 1), True),), "thing": (0, 1),
         "arrows": ((1, 0),), "crews": (((0, 1), (2,)), ((0,),)), "c": 0, "most": 3, "h": 0, "text": "hand #7\n"}
HAND = hands.Hand(ROW)
YARD = yard.Yard(ROW, (), RIGHT["crews"])
BOARD = board.Board(ROW)
RIGHT["board"] = BOARD
VALUES = slow.ODD_VALUES + ([[(0, 1)]], {"a": [((0, 1),)]}, HAND, YARD, BOARD, (HAND, YARD), errors.BadCrews([0]))
VALUES += tuple((thing,) for thing in VALUES) + tuple(((0, 1), thing) for thing in VALUES)
VALUES += tuple((((0, 1), thing),) for thing in slow.ODD_VALUES) + tuple(((thing,),) for thing in slow.ODD_VALUES)


def answer(call, *values):
    """What a call returns, or the name and the fields of the error of the package that it raises."""
    try:
        return call(*values)
    except errors.TurnError as error:
        return type(error).__name__, vars(error)


def functions():
    for place, text in FUNCTIONS.items():
        for name, arguments in told_in(text):
            yield getattr(import_module("turnedapart." + place), name), arguments


def made(name):
    """A new object of a class, with something done."""
    if name == "Hand":
        thing = hands.Hand(ROW)
        thing.turn((1, 2))
    elif name == "Board":
        thing = board.Board(ROW)
        thing.hand()
    else:
        thing = yard.Yard(ROW, (), RIGHT["crews"])
        thing.take(0)
    return thing


def methods():
    """All methods that take values, each with what makes it anew."""
    for place, text in CLASSES.items():
        (name, arguments), *others = told_in(text)
        yield lambda place=place, name=name: getattr(import_module("turnedapart." + place), name), arguments
        if name != "Home":
            for method, more in others:
                yield lambda name=name, method=method: getattr(made(name), method), more


def calls(thing):
    """A thing in the place of each argument but home, the others being right."""
    for home in (ROW, ROUND):
        for call, arguments in functions():
            for at, name in enumerate(arguments):
                if name not in ("home", "board"):
                    yield call, values_with(home, arguments, at, thing)
    for maker, arguments in methods():
        for at, name in enumerate(arguments):
            if name != "home":
                yield maker(), values_with(ROW, arguments, at, thing)


def values_with(home, arguments, at, thing):
    return [home if name == "home" else RIGHT[name] for name in arguments[:at]] + [thing] + [
        RIGHT[name] for name in arguments[at + 1:]]


class GeneralRules(unittest.TestCase):
    def test_only_errors_of_the_package_and_nothing_changed(self):
        for thing in VALUES:
            before = deepcopy(thing) if isinstance(thing, (list, dict)) else thing
            for call, values in calls(thing):
                answer(call, *values)
                self.assertEqual(thing, before)

    def test_equal_calls_give_equal_results(self):
        for thing in slow.ODD_VALUES:
            for (call, values), (again, same) in zip(calls(thing), calls(deepcopy(thing))):
                if inspect.isclass(call) or call.__name__ == "recovered":
                    self.assertEqual(type(answer(call, *values)), type(answer(again, *same)))
                else:
                    self.assertEqual(answer(call, *values), answer(again, *same), call)

    def test_right_values_are_let(self):
        for call, arguments in functions():
            told = call(*[ROW if name == "home" else RIGHT[name] for name in arguments])
            again = call(*[ROW if name == "home" else RIGHT[name] for name in arguments])
            if call.__name__ == "recovered":
                told, again = (told[0].log(), told[1]), (again[0].log(), again[1])
            self.assertEqual(told, again)
            if isinstance(told, (list, dict)):
                told.append(None)
                self.assertNotEqual(told, again)

    def test_is_functions_tell_flags(self):
        for call, arguments in functions():
            if call.__name__.startswith("is_"):
                for thing in VALUES:
                    values = [ROW if name == "home" else RIGHT[name] for name in arguments[:-1]]
                    if arguments[-1] == "thing":
                        self.assertIs(type(call(*values, thing)), bool)

    def test_none_never_is_one(self):
        for call, arguments in functions():
            if arguments[-1] == "thing":
                values = [ROW if name == "home" else RIGHT[name] for name in arguments[:-1]]
                self.assertIs(call(*values, None), False)

    def test_a_list_may_change_behind_its_error(self):
        kept = [(0, 1)]
        self.assertRaises(errors.NoStanding, turns.alone, ROW, kept)
        kept.append((1, 2))
        error = errors.BadHome(kept)
        kept.append((2, 3))
        self.assertEqual(error.part, [(0, 1), (1, 2), (2, 3)])
