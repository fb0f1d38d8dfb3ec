"""Point 19: journals, and boards that are recovered from them."""

import re
import unittest
from copy import deepcopy
from functools import lru_cache
from random import Random

from tests import slow
from tests.books import BoardBook, board_state, drawn_board, drawn_item, told
from turnedapart.board import Board
from turnedapart.errors import NoText, NothingDone
from turnedapart.homes import Home
from turnedapart.journals import journal, recovered

LINE = Home(3, ((0, 1), (1, 2), (0, 2)))
NUMBER = "(0|[1-9][0-9]{0,8})"
FORMS = [re.compile(form.replace("N", NUMBER) + " #(0|[1-9][0-9]{0,3})") for form in
         ("(hand)", "(turn) N N N", "(agree)", "(tie) N N", "(untie) N N")]
NO_TEXTS = [thing for thing in slow.ODD_VALUES if not isinstance(thing, str)] + [b"", b"hand #7\n", ["hand #7\n"]]


def checks(items):
    """The check of each line, of which all that stand ahead are summed up."""
    found = []
    for number, item in enumerate(items, start=1):
        found.append((sum(found) + 7 * number + 7 * sum(item[1:])) % 9973)
    return found


def written(items):
    """The journal of some items, whatever they are."""
    rows = [" ".join(map(str, item)) for item in items]
    return "".join(f"{row} #{check}\n" for row, check in zip(rows, checks(items)))


def item_of(line):
    """The item and the check of a line, or None."""
    for form in FORMS:
        found = form.fullmatch(line)
        if found:
            word, *numbers = found.groups()
            return (word,) + tuple(map(int, numbers[:-1])), int(numbers[-1])
    return None


def do_in(book, item):
    """Do an item in a book; whether it could be done."""
    before = len(book.log)
    if item[0] == "turn":
        book.turn(item[1], item[2:])
    elif item[0] == "untie":
        book.untie(item[1:])
    elif item[0] != "tie" or max(item[1:]) < book.many:
        getattr(book, item[0])(*item[1:])
    return len(book.log) > before


@lru_cache(maxsize=None)
def behind(many, arrows, items):
    """The book behind some items and what it tells of itself, or None for both if the last one can't be done."""
    book = deepcopy(behind(many, arrows, items[:-1])[0]) if items else BoardBook(Home(many, arrows))
    if items and not do_in(book, items[-1]):
        return None, None
    return book, book.state()


def read(home, text):
    """The items that a text tells, line by line, and what a book tells behind them."""
    items = ()
    while "\n" in text:
        line, _, text = text.partition("\n")
        found = item_of(line)
        if found is None or checks(items + found[:1])[-1] != found[1]:
            break
        if behind(home.many, home.arrows, items + found[:1])[0] is None:
            break
        items += found[:1]
    return items, behind(home.many, home.arrows, items)[1]


def some_boards():
    """Boards of small homes, at which things were done."""
    homes = slow.small_homes()[5::7] + slow.bad_homes()[::9] + (LINE, Home(1, ()))
    for seed, home in enumerate(homes):
        board, _ = drawn_board(home, seed, 25)
        yield home, board


class Journals(unittest.TestCase):
    def test_line_by_line(self):
        board = Board(LINE)
        self.assertEqual(journal(board), "")
        board.hand()
        self.assertEqual(journal(board), "hand #7\n")
        board.turn(0, (1, 2))
        self.assertEqual(journal(board), "hand #7\nturn 0 1 2 #42\n")
        board.agree()
        # The sum of 7 and 42, and 7 times 3.
        self.assertEqual(journal(board), "hand #7\nturn 0 1 2 #42\nagree #70\n")
        board.untie((0, 1))
        board.tie(0, 1)
        self.assertEqual(journal(board).splitlines()[3:], ["untie 0 1 #154", "tie 0 1 #315"])
        board.back()
        self.assertEqual(journal(board).splitlines()[3:], ["untie 0 1 #154"])

    def test_words_and_checks(self):
        for home, board in some_boards():
            self.assertEqual(journal(board), written(board.log()))

    def test_checks_are_less_than_9973(self):
        board = Board(LINE)
        board.hand()
        for _ in range(300):
            board.turn(0, (1, 2))
        text = journal(board)
        self.assertEqual(text, written(board.log()))
        found = [int(line.rpartition("#")[2]) for line in text.splitlines()]
        self.assertEqual(found, checks(board.log()))
        self.assertTrue(max(found) < 9973 < sum(found[:14]))
        self.assertEqual(len(set(text.splitlines())), len(set(found)))

    def test_asked_again(self):
        for home, board in some_boards():
            before = board_state(board)
            self.assertEqual(journal(board), journal(board.copy()))
            self.assertEqual(board_state(board), before)


class Recovered(unittest.TestCase):
    def same(self, home, text):
        """The board and the number are as the books have them."""
        board, many = recovered(home, text)
        items, state = read(home, text)
        self.assertEqual((many, board_state(board)), (len(items), state), text[-60:])
        return board, many

    def test_whole_journals(self):
        for home, board in some_boards():
            told_again, many = self.same(home, journal(board))
            self.assertEqual(many, len(board.log()))
            self.assertEqual(board_state(told_again), board_state(board))
            self.assertEqual(journal(told_again), journal(board))

    def test_the_board_goes_on_as_any_other(self):
        for seed, (home, board) in enumerate(some_boards()):
            source, book = Random(seed), deepcopy(behind(home.many, home.arrows, tuple(board.log()))[0])
            other, _ = recovered(home, journal(board))
            for _ in range(10):
                name, values = drawn_item(book, source)
                self.assertEqual(told(getattr(other, name), *values), getattr(book, name)(*values))
            while book.log:
                self.assertEqual(board_state(other), book.state())
                book.back()
                self.assertIsNone(other.back())
            self.assertRaises(NothingDone, other.back)
            self.assertEqual(board_state(other), board_state(Board(home)))

    def test_nothing_done(self):
        for text in ("", "\n", "hand", "hand #7", " hand #7\n", "\nhand #7\n"):
            board, many = self.same(LINE, text)
            self.assertEqual((many, board_state(board)), (0, board_state(Board(LINE))))

    def test_cut_at_each_place(self):
        for home, board in some_boards():
            text, states = journal(board), [board_state(Board(home))]
            going = Board(home)
            for word, *numbers in board.log():
                values = {"turn": [*numbers[:1], tuple(numbers[1:])], "untie": [tuple(numbers)]}.get(word, numbers)
                getattr(going, word)(*values)
                states.append(board_state(going))
            for at in range(len(text) + 1):
                cut, many = recovered(home, text[:at])
                self.assertEqual(many, text[:at].count("\n"))
                self.assertEqual(board_state(cut), states[many])

    def test_each_sign_changed(self):
        for home, board in list(some_boards())[::2]:
            text = journal(board)
            for at in range(len(text)):
                for sign in "07 #\nt-~"[at % 2::2] + "9":
                    if sign != text[at]:
                        self.same(home, text[:at] + sign + text[at + 1:])

    def test_signs_left_out_and_put_in(self):
        for home, board in list(some_boards())[::4]:
            text = journal(board)
            for at in range(len(text) + 1):
                self.same(home, text[:at] + text[at + 1:])
                for sign in " 0\n":
                    self.same(home, text[:at] + sign + text[at:])

    def test_lines_moved(self):
        for home, board in some_boards():
            lines, source = journal(board).splitlines(True), Random(1)
            for k in range(len(lines)):
                other = source.randrange(len(lines))
                swapped = list(lines)
                swapped[k], swapped[other] = lines[other], lines[k]
                for rows in (lines[:k] + lines[k + 1:], lines[:k + 1] + lines[k:], swapped,
                             lines[:k] + [lines[other]] + lines[k:]):
                    self.same(home, "".join(rows))

    def test_checks_made_right_again(self):
        done = 0
        for home, board in some_boards():
            items, source = board.log(), Random(2)
            more = [("hand",), ("agree",), ("turn", 0, 0, 1), ("turn", 1, 1, 0), ("tie", 0, 1), ("tie", 0, 9),
                    ("untie", 0, 1), ("untie", 0, 0), ("turn", 40, 0, 1), ("tie", 2, 2), ("hand", 0), ("agree", 1),
                    ("turn", 0, 1), ("turn", 0, 0, 1, 2), ("tie", 0), ("untie", 0, 1, 2), ("back",), ("",),
                    ("turn", 0, 999999999, 1), ("turn", 1000000000, 0, 1), ("Hand",), ("tie", -1, 0), ("hands",)]
            for k in range(len(items) + 1):
                for rows in (items[:k] + items[k + 1:], items[:k + 1] + items[k:],
                             items[:k] + items[k + 1:k + 2] + items[k:k + 1] + items[k + 2:],
                             items[:k] + [source.choice(more)] + items[k:]):
                    board, many = self.same(home, written(rows))
                    self.assertEqual(board.log(), rows[:many])
                    done += many < len(rows)
        self.assertGreater(done, 100)

    def test_each_wrong_item(self):
        ahead = [("hand",), ("turn", 0, 0, 1)]
        for item in (("hand", 0), ("agree", 0), ("turn", 0, 0), ("turn", 0, 0, 1, 2), ("turn", 1, 0, 1), ("turn", 0, 1, 0),
                     ("turn", 0, 0, 3), ("turn", 40, 0, 1), ("tie", 0, 1), ("tie", 0), ("tie", 0, 1, 2), ("tie", 0, 3),
                     ("tie", 1, 1), ("untie", 1, 0), ("untie", 0), ("untie", 0, 1, 0), ("untie", 0, 3), ("back",),
                     ("",), ("HAND",), ("hands",), ("turn", 0, 1, 2), ("turn", 999999999, 0, 1), ("home",), ("log",)):
            board, many = self.same(LINE, written(ahead + [item, ("hand",)]))
            self.assertEqual((many, board.log()), (2, ahead))
        for item in (("hand",), ("agree",), ("turn", 0, 0, 2), ("turn", 0, 0, 1), ("untie", 0, 1)):
            self.assertEqual(self.same(LINE, written(ahead + [item, ("hand",)]))[1], 4)

    def line(self, line, right):
        """Whether a line in the place of the second one, which is fine as `turn 0 1 2 #42`, is done."""
        self.assertEqual(self.same(LINE, "hand #7\n" + line)[1], 1 + right)

    def test_how_numbers_are_written(self):
        self.line("turn 0 1 2 #42\n", 1)
        for line in ("turn 00 1 2 #42\n", "turn 0 01 2 #42\n", "turn 0 1 02 #42\n", "turn 0 1 2 #042\n", "turn -0 1 2 #42\n",
                     "turn +0 1 2 #42\n", "turn 0 +1 2 #42\n", "turn 0 1 2 #+42\n", "turn 0 1 2 # 42\n", "turn 0 1 2 #42 \n",
                     "turn  0 1 2 #42\n", " turn 0 1 2 #42\n", "turn 0 1 2  #42\n", "turn 0 1 2 42\n", "turn 0 1 2#42\n",
                     "turn 0 1 2 ##42\n", "turn 0 1 2 #\n", "turn 0 1 2\n", "turn 0 1_0 2 #42\n", "turn 0 1 2 #4_2\n",
                     "turn 0 1 2 #42", "turn 0 1 2 #42 #42\n", "turn,0,1,2 #42\n", "Turn 0 1 2 #42\n", "turn 0 1 2.0 #42\n",
                     "turn 0 1 2 #43\n", "turn 0 1 2 #41\n", "turn 0 1 2 #10015\n", "turn 0 1 2 #-9931\n", "\n", " \n",
                     "#42\n", " #42\n", "turn 0 1 2 #42\n\n"[1:], "turn 0 one 2 #42\n", "turn 0  2 #42\n",
                     "turn 0 0000000001 2 #42\n", "turn 0 " + "9" * 5000 + " 2 #42\n", "turn 0 1 2 #" + "9" * 5000 + "\n"):
            self.line(line, 0)

    def test_more_than_nine_digits(self):
        for number in (999999999, 1000000000, 10 ** 20):
            rows = [("hand",), ("turn", number, 0, 1)]
            self.assertEqual(self.same(LINE, written(rows))[1], 1)

    def test_behind_a_line_that_is_not_done_nothing_is(self):
        text = written([("hand",), ("hand",), ("hand",)])
        self.assertEqual(self.same(LINE, text)[1], 3)
        self.assertEqual(self.same(LINE, text.replace("#21\n", "#22\n"))[1], 1)
        self.assertEqual(self.same(LINE, text + "\n" + written([("hand",)]))[1], 3)
        self.assertEqual(self.same(LINE, text + "hand")[1], 3)

    def test_lines_that_can_not_be_done_then(self):
        self.assertEqual(recovered(LINE, written([("hand",)] * 41))[1], 40)
        rows = [("hand",), ("hand",), ("turn", 0, 2, 1), ("turn", 1, 0, 3), ("agree",)]
        home = Home(4, ((0, 1), (2, 1), (2, 3), (0, 3)))
        self.assertEqual(recovered(home, written(rows))[1], 4)
        rows[4:] = [("turn", 1, 0, 3), ("agree",), ("turn", 0, 2, 1)]
        self.assertEqual(recovered(home, written(rows))[1], 6)
        rows[6:] = [("turn", 0, 1, 2), ("tie", 1, 3), ("untie", 0, 1)]
        self.assertEqual(recovered(home, written(rows))[1], 9)

    def test_another_home(self):
        board = Board(LINE)
        for arrow in ((0, 1), (1, 2)):
            board.turn(board.hand(), arrow)
        text = journal(board)
        self.assertEqual(self.same(Home(3, ((0, 1),)), text)[1], 3)
        self.assertEqual(self.same(Home(3, ((1, 0),)), text)[1], 1)
        self.assertEqual(self.same(Home(5, LINE.arrows), text)[1], 4)

    def test_some_hundred_lines(self):
        home = slow.random_home(10, 1, 0.5)
        source, board = Random(3), Board(home)
        while len(board.log()) < 900:
            u, v = source.sample(range(10), 2)
            arrows = board.home().arrows
            told(*source.choice([(board.hand,), (board.agree,), (board.tie, u, v)] + [
                (board.turn, source.randrange(40), arrow) for arrow in arrows] + [
                (board.untie, arrow) for arrow in arrows[:1]]))
        text = journal(board)
        self.assertEqual(text, written(board.log()))
        other, many = recovered(home, text)
        self.assertEqual((many, board_state(other)), (len(board.log()), board_state(board)))
        self.assertEqual(recovered(home, text[:-1])[1], many - 1)

    def test_no_text(self):
        for thing in NO_TEXTS:
            self.assertRaises(NoText, recovered, LINE, thing)

    def test_strings_of_every_kind(self):
        for thing in slow.ODD_VALUES:
            if isinstance(thing, str):
                self.assertEqual(recovered(LINE, thing)[1], 0)
        self.assertEqual(recovered(LINE, "\n" * 20000)[1], 0)
        self.assertEqual(recovered(LINE, "hand #7\n" * 2000)[1], 1)
