"""Journals: what was done at a board as a text, and boards made of such texts again."""

from turnedapart.board import Board
from turnedapart.errors import NoText, TurnError

_PRIME = 9973
_WEIGHT = 7
_MOST_DIGITS = 9
# How many numbers stand behind the word of an item.
_NUMBERS = {"hand": 0, "turn": 3, "agree": 0, "tie": 2, "untie": 2}


def journal(board):
    """A text with a line for each item of the board's log."""
    lines = []
    total = 0
    for number, item in enumerate(board.log(), start=1):
        check = _check_of(total, number, item)
        total += check
        lines.append(_line_of(item, check) + "\n")
    return "".join(lines)


def _check_of(total, number, item):
    """The check of a line by the sum of those ahead, its number and the numbers of its item."""
    return (total + _WEIGHT * number + _WEIGHT * sum(item[1:])) % _PRIME


def _line_of(item, check):
    """The line of an item, without its line feed."""
    return " ".join([str(word) for word in item]) + " #" + str(check)


def recovered(home, text):
    """A pair: the board of the home at which the lines are done from the front, and how many were done."""
    if not isinstance(text, str):
        raise NoText()
    board = Board(home)
    total = 0
    many = 0
    # What stands behind the last line feed is no whole line.
    for line in text.split("\n")[:-1]:
        item = _item_of(line)
        if item is None:
            break
        check = _check_of(total, many + 1, item)
        # Written anew, a line is told sign by sign: needless digits and blanks, too.
        if _line_of(item, check) != line or not _could_do(board, item):
            break
        total += check
        many += 1
    return board, many


def _item_of(line):
    """The item that the words of a line tell ahead of its check, or None."""
    words = line.split(" ")
    numbers = words[1:-1]
    if _NUMBERS.get(words[0]) != len(numbers):
        return None
    if not all([word.isdecimal() and len(word) <= _MOST_DIGITS for word in numbers]):
        return None
    return (words[0],) + tuple([int(word) for word in numbers])


def _could_do(board, item):
    """Do an item at a board; whether it could be done."""
    try:
        _do(board, item)
    except TurnError:
        return False
    return True


def _do(board, item):
    """Do an item at a board."""
    word = item[0]
    if word == "hand":
        board.hand()
    elif word == "turn":
        board.turn(item[1], item[2:])
    elif word == "agree":
        board.agree()
    elif word == "tie":
        board.tie(item[1], item[2])
    else:
        board.untie(item[1:])
