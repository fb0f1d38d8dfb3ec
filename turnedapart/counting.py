"""All standings of a home, their number, and in how many ways its things can be coloured."""

from turnedapart.errors import NoNumber
from turnedapart.homes import check_standing
from turnedapart.leads import all_leads
from turnedapart.pairs import is_integer, lots_within

_MOST_STANDINGS = 5000
_MOST_COLOURS = 1000


def all_standings(home):
    """The ascending list of all standings."""
    leads = all_leads(home.many, home.arrows, _MOST_STANDINGS)
    return sorted([tuple([arrow for arrow, pair in zip(home.arrows, row) if arrow != pair]) for row in leads])


def many_standings(home):
    """How many standings there are."""
    return abs(colourings(home, -1))


def colourings(home, colours):
    """In how many ways so many colours can be given to the things, tied ones unlike; below 0 by the polynomial."""
    if not is_integer(colours) or not -_MOST_COLOURS <= colours <= _MOST_COLOURS:
        raise NoNumber()
    total = 0
    # In how many ways so many groups can be given unlike colours.
    ways = 1
    for groups, many in enumerate(_partings(home)):
        total += many * ways
        ways = ways * (colours - groups)
    return total


def _partings(home):
    """For each number of groups, in how many ways the things can be parted into so many groups without ties."""
    # Lots of things are numbers whose bits are the things; lesser numbers come first, so all rests are known.
    loose = _loose_lots(home)
    ways = [[1] + [0] * home.many]
    for lot in range(1, 1 << home.many):
        row = [0] * (home.many + 1)
        for group in _groups_of_least(lot):
            if loose[group]:
                row = [many + more for many, more in zip(row, [0] + ways[lot ^ group])]
        ways.append(row)
    return ways[-1]


def _loose_lots(home):
    """For each lot of things whether no two of them are tied."""
    near = [0] * home.many
    for u, v in home.arrows:
        near[max(u, v)] |= 1 << min(u, v)
    loose = [True]
    for thing in range(home.many):
        loose = loose + [fine and not lot & near[thing] for lot, fine in enumerate(loose)]
    return loose


def _groups_of_least(lot):
    """All lots within a lot that have its least thing."""
    least = lot & -lot
    return [some | least for some in lots_within(lot ^ least)]


def within(home, standing):
    """How many standings have nothing but what this one has, itself too."""
    check_standing(home, standing)
    had = {arrow: True for arrow in standing}
    return len([lot for lot in all_standings(home) if all([arrow in had for arrow in lot])])


def standing_at(home, index):
    """The standing with this index, among all of them ascending."""
    if not is_integer(index) or index < 0:
        raise NoNumber()
    every = all_standings(home)
    if index >= len(every):
        raise NoNumber()
    return every[index]


def index_of(home, standing):
    """The index of a standing, among all of them ascending."""
    check_standing(home, standing)
    return all_standings(home).index(standing)
