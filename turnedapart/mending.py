"""Mending: the fewest ties, and the fewest things less, that make a home spined."""

from itertools import combinations

from turnedapart.errors import BadHome, NoThings, TooMany
from turnedapart.homes import Home
from turnedapart.pairs import are_things, is_ascending, is_pair, reaches
from turnedapart.spined import bad_part, fat_parts, is_spined

_MOST_THINGS = 6


def is_mend(home, thing):
    """Whether a thing is an ascending tuple of pairs that, as arrows beside the home's, make a spined home."""
    if not isinstance(thing, tuple) or not all([is_pair(home.many, pair) for pair in thing]):
        return False
    if not is_ascending(thing):
        return False
    try:
        mended = Home(home.many, home.arrows + thing)
    except BadHome:
        return False
    return is_spined(mended)


def fewest_ties(home):
    """The fewest pairs of a mend."""
    return len(mend(home))


def mend(home):
    """A mend of the fewest pairs."""
    if home.many > _MOST_THINGS:
        raise TooMany(_MOST_THINGS)
    border = [()]
    mended = None
    while mended is None:
        mended, border = _one_tie_on(home, border)
    return mended


def _one_tie_on(home, border):
    """The first of some tuples of pairs that is a mend, or None, and all that can become one, with a pair more."""
    longer = {}
    for ties in border:
        tied = Home(home.many, home.arrows + ties)
        bad = bad_part(tied)
        if bad is None:
            return ties, []
        # A part stays bad as long as nothing is tied in it, so each mend has a pair of this one.
        for pair in _pairs_to_tie(tied, bad[0]):
            longer[tuple(sorted(ties + (pair,)))] = True
    return None, list(longer)


def _pairs_to_tie(home, part):
    """The pairs of things of a part that are not tied, led each way that makes no ring."""
    reach = reaches(home.many, home.arrows)
    tied = {pair: True for u, v in home.arrows for pair in ((u, v), (v, u))}
    free = [(u, v) for u in part for v in part if u != v and (u, v) not in tied]
    return [(u, v) for u, v in free if not reach[v] >> u & 1]


def without(home, things):
    """The Home without some of its things, but not all; the others numbered anew, in their order."""
    if not are_things(home.many, things) or len(things) == home.many:
        raise NoThings()
    left = [thing for thing in range(home.many) if thing not in things]
    numbers = {thing: number for number, thing in enumerate(left)}
    arrows = [(numbers[u], numbers[v]) for u, v in home.arrows if u in numbers and v in numbers]
    return Home(len(left), tuple(arrows))


def fewest_things(home):
    """The least of the shortest tuples of things without which the home is spined."""
    fat = fat_parts(home)
    # Three things are always spined, so some are left in the end.
    rows = [row for many in range(home.many) for row in combinations(range(home.many), many)]
    return min([row for row in rows if _is_in_each(row, fat)], key=lambda row: (len(row), row))


def _is_in_each(row, parts):
    """Whether each part, a number whose bits are its things, has a thing of a row."""
    members = 0
    for thing in row:
        members |= 1 << thing
    return all([part & members for part in parts])
