"""Spined homes: at which there is one least joint standing, whatever hands do."""

from turnedapart.errors import NoNumber, NoTies
from turnedapart.homes import Home, from_order, is_many
from turnedapart.joints import is_hands, joint
from turnedapart.leads import all_leads
from turnedapart.pairs import (are_things, arrows_within, bare_within, is_ascending, is_pair, is_ring, least_order,
                               turned_round)

_MOST_HOMES = 1000


def fat_parts(home):
    """The parts, as numbers whose bits are their things, that have no fewer bare arrows than things."""
    # Each part is made once, its things in an order of the home: who comes in last has nobody behind it,
    # so no other arrow is made or unmade bare by it.
    parts = [(0, 0, [0] * home.many)]
    for thing in least_order(list(range(home.many)), home.arrows):
        ahead = [u for u, v in home.arrows if v == thing]
        parts = parts + [_with_last(part, thing, ahead) for part in parts]
    return [members for members, spare, above in parts if members and spare >= 0]


def _with_last(part, thing, ahead):
    """A part with a thing more, behind all others."""
    # A part is told by its members, how many more bare arrows than things it has, and who leads to each thing.
    members, spare, above = part
    near = [other for other in ahead if members >> other & 1]
    far = 0
    for other in near:
        far |= above[other]
    bare = [other for other in near if not far >> other & 1]
    for other in near:
        far |= 1 << other
    return members | 1 << thing, spare + len(bare) - 1, above[:thing] + [far] + above[thing + 1:]


def is_spined(home):
    """Whether in no part the bare arrows make a closed round."""
    # The things of a closed round, as a part of their own, are fat; without one a part has fewer bare arrows.
    return not fat_parts(home)


def bad_part(home):
    """None if the home is spined, else a pair: a part, and a closed round of its bare arrows."""
    parts = [_things_of(home, members) for members in fat_parts(home)]
    if not parts:
        return None
    part = min(parts, key=lambda row: (len(row), row))
    return part, _round_of(part, bare_within(home, part))


def _things_of(home, members):
    """The ascending tuple of the things that are the bits of a number."""
    return tuple([thing for thing in range(home.many) if members >> thing & 1])


def _round_of(part, bare):
    """The closed round of the bare arrows of a fat part within which no lesser one is fat."""
    # A bare arrow across the round would leave a lesser fat part: so they are the round and nothing else.
    near = bare + turned_round(bare)
    row = [part[0]]
    while len(row) < len(part):
        row.append(min([v for u, v in near if u == row[-1] and v not in row]))
    return tuple(row)


def is_bad_part(home, thing):
    """Whether a thing is a pair of a part and a closed round of its bare arrows."""
    if not isinstance(thing, tuple) or len(thing) != 2:
        return False
    part, row = thing
    if not are_things(home.many, part):
        return False
    bare = bare_within(home, part)
    return is_ring(home.many, bare + turned_round(bare), row) and len(row) > 2


def open_hands(home):
    """None if the home is spined, else two standings for which there is no one least joint standing."""
    found = bad_part(home)
    if found is None:
        return None
    part, row = found
    at = min([k for k in range(len(row)) if (row[k - 1], row[k]) in home.arrows])
    first, last = row[at - 1], row[at]
    # One hand turns a bare arrow alone, the other one leads all the rest of the round from its first thing to
    # its last one. Together they touch just the arrows that point the one way about: with these turned, the
    # round is a ring. Nobody outside can help to span others, being behind the part for both hands.
    turned = [pair for pair in arrows_within(home, part) if pair != (first, last)] + [(last, first)]
    others = tuple([thing for thing in range(home.many) if thing not in part])
    onward = (row[at:] + row[:at])[::-1]
    return from_order(home, least_order(part, turned) + others), from_order(home, onward + others)


def is_open_hands(home, thing):
    """Whether a thing is a tuple of two standings for which there is no one least joint standing."""
    return is_hands(home, thing) and len(thing) == 2 and joint(home, thing) is None


def homes_of(many, ties):
    """The ascending list of the arrows of all homes of so many things in which just these are tied."""
    if not is_many(many):
        raise NoNumber()
    if not _are_ties(many, ties):
        raise NoTies()
    return sorted([tuple(sorted(row)) for row in all_leads(many, ties, _MOST_HOMES)])


def _are_ties(many, value):
    """Whether a value is an ascending tuple of ascending pairs of things."""
    if not isinstance(value, tuple) or not all([is_pair(many, pair) and is_ascending(pair) for pair in value]):
        return False
    return is_ascending(value)


def spined_of(many, ties):
    """The ascending list of the arrows of those of these homes that are spined."""
    return [arrows for arrows in homes_of(many, ties) if is_spined(Home(many, arrows))]
