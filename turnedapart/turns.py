"""Single turns: which arrows can be turned alone, and the shortest rows from standing to standing."""

from turnedapart.errors import NoArrow, NoNumber, NotBare, TooMany
from turnedapart.homes import bare, check_both
from turnedapart.pairs import bare_arrows, differing, is_arrow, is_integer, other_way, toggled

_MOST_BETWEEN = 5000


def alone(home, standing):
    """The ascending tuple of the arrows that can be turned alone, or back."""
    # No ring is made exactly if there is no other way between an arrow's things: if it is bare.
    return bare(home, standing)


def check_turn(home, lot, arrow):
    """Raise NoArrow for what is no arrow, NotBare for one that can't be turned alone."""
    if not is_arrow(home, arrow):
        raise NoArrow()
    around = other_way(home, lot, arrow)
    if around is not None:
        raise NotBare(around)


def steps(home, one, other):
    """The least of the shortest rows of single turns from one standing to the other."""
    check_both(home, one, other)
    row = []
    standing = one
    # Each arrow in just one of both is turned once, and a bare one among them can always be first.
    while standing != other:
        free = bare_arrows(home, standing)
        arrow = min([arrow for arrow in differing(standing, other) if arrow in free])
        row.append(arrow)
        standing = toggled(standing, arrow)
    return tuple(row)


def is_steps(home, one, other, thing):
    """Whether a thing is one of the shortest rows from one standing to the other."""
    check_both(home, one, other)
    if not isinstance(thing, tuple) or len(thing) != len(differing(one, other)):
        return False
    standing = one
    for arrow in thing:
        if not is_arrow(home, arrow) or arrow not in bare_arrows(home, standing):
            return False
        standing = toggled(standing, arrow)
    return standing == other


def _one_turn_on(home, apart, rows, border):
    """The standings one turn beyond a border, with how many rows lead there; rows has all before."""
    beyond = {}
    for standing, many in border.items():
        for arrow in bare_arrows(home, standing):
            there = toggled(standing, arrow)
            if arrow in apart and there not in rows:
                beyond[there] = beyond.get(there, 0) + many
                if len(rows) + len(beyond) > _MOST_BETWEEN:
                    raise TooMany(_MOST_BETWEEN)
    return beyond


def _rows_to(home, one, other):
    """For each standing between both, how many shortest rows lead from it to the other one."""
    # It is counted from the other one on, as a row turned round is a row of the way back.
    apart = differing(one, other)
    rows = {other: 1}
    border = {other: 1}
    for _ in apart:
        border = _one_turn_on(home, apart, rows, border)
        for standing, many in border.items():
            rows[standing] = many
    return rows


def many_rows(home, one, other):
    """How many shortest rows lead from one standing to the other."""
    check_both(home, one, other)
    return _rows_to(home, one, other)[one]


def _first_turn(rows, standing, other, index):
    """The first arrow of the row with this index from a standing on, and the index behind that turn."""
    for arrow in differing(standing, other):
        many = rows.get(toggled(standing, arrow), 0)
        if index < many:
            break
        index -= many
    return arrow, index


def row_at(home, one, other, index):
    """The shortest row with this index, among all of them ascending."""
    check_both(home, one, other)
    if not is_integer(index) or index < 0:
        raise NoNumber()
    rows = _rows_to(home, one, other)
    if index >= rows[one]:
        raise NoNumber()
    row = []
    standing = one
    rest = index
    while standing != other:
        arrow, rest = _first_turn(rows, standing, other, rest)
        row.append(arrow)
        standing = toggled(standing, arrow)
    return tuple(row)
