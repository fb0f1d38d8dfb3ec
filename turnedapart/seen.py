"""Seen ties: what they make sure of all others, how many standings fit them, and where to look next."""

from turnedapart.counting import all_standings
from turnedapart.errors import NoFit, NoSeen
from turnedapart.pairs import has_ring, is_arrow, is_ascending, reaches


def is_seen(home, thing):
    """Whether a thing is a tuple of pairs of an arrow and a flag, the arrows ascending."""
    if not isinstance(thing, tuple) or not all([_is_look(home, look) for look in thing]):
        return False
    return is_ascending([arrow for arrow, turned in thing])


def _is_look(home, value):
    """Whether a value is a pair of an arrow and a flag."""
    if not isinstance(value, tuple) or len(value) != 2:
        return False
    arrow, turned = value
    return is_arrow(home, arrow) and isinstance(turned, bool)


def _check_seen(home, seen):
    """Raise NoSeen for what is no seen ties."""
    if not is_seen(home, seen):
        raise NoSeen()


def sure(home, seen):
    """None if no standing fits, else the lots of the arrows that each fitting standing has, and that none has."""
    _check_seen(home, seen)
    pairs = [(v, u) if turned else (u, v) for (u, v), turned in seen]
    if has_ring(home.many, pairs):
        return None
    # An arrow is sure exactly if a way along the seen ties, as they are seen, leads between its things.
    reach = reaches(home.many, pairs)
    had = tuple([(u, v) for u, v in home.arrows if reach[v] >> u & 1])
    lacked = tuple([(u, v) for u, v in home.arrows if reach[u] >> v & 1])
    return had, lacked


def fitting(home, seen):
    """How many standings fit."""
    _check_seen(home, seen)
    return len(_all_fitting(home, seen))


def _all_fitting(home, seen):
    """The list of the standings that have just those of the seen arrows that are seen turned."""
    every = all_standings(home)
    return [standing for standing in every if all([(arrow in standing) == turned for arrow, turned in seen])]


def next_look(home, seen):
    """The least arrow that isn't sure and parts the fitting standings most evenly; None if all is sure."""
    told = sure(home, seen)
    if told is None:
        raise NoFit()
    fits = _all_fitting(home, seen)
    rows = []
    for arrow in home.arrows:
        if arrow not in told[0] and arrow not in told[1]:
            many = len([standing for standing in fits if arrow in standing])
            rows.append((max(many, len(fits) - many), arrow))
    return min(rows)[1] if rows else None
