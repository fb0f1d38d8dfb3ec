"""Homes, their lots and standings, and what is led how with some arrows turned."""

from turnedapart.errors import BadHome, NoLot, NoOrder, NoStanding, NoThing
from turnedapart.pairs import (bare_arrows, differing, has_ring, is_arrow, is_ascending, is_integer,
                               is_pair, is_thing, least_order, least_ring, least_way, led_pairs)

_MOST_THINGS = 10


class Home:
    """Things from 0 on, and the arrows among them: who is ahead of whom, never in a ring."""

    def __init__(self, many, arrows):
        if not is_many(many):
            raise BadHome("many")
        if not _are_arrows(many, arrows):
            raise BadHome("arrows")
        if has_ring(many, arrows):
            raise BadHome("ring")
        self.many = many
        self.arrows = tuple(sorted(arrows))

    def __eq__(self, other):
        return isinstance(other, Home) and self.many == other.many and self.arrows == other.arrows


def is_many(value):
    """Whether a value is a number of things that a home can have."""
    return is_integer(value) and 1 <= value <= _MOST_THINGS


def _are_arrows(many, value):
    """Whether a value is a tuple of pairs of things, no two things with more than one pair."""
    if not isinstance(value, tuple) or not all([is_pair(many, pair) for pair in value]):
        return False
    return len({(min(u, v), max(u, v)) for u, v in value}) == len(value)


def is_lot(home, thing):
    """Whether a thing is an ascending tuple of arrows of the home."""
    if not isinstance(thing, tuple) or not all([is_arrow(home, arrow) for arrow in thing]):
        return False
    return is_ascending(thing)


def is_standing(home, thing):
    """Whether a thing is a lot that, turned, makes no ring."""
    return is_lot(home, thing) and not has_ring(home.many, led_pairs(home, thing))


def check_lot(home, thing):
    """Raise NoLot for what is no lot."""
    if not is_lot(home, thing):
        raise NoLot()


def check_standing(home, thing):
    """Raise NoStanding for what is no standing."""
    if not is_standing(home, thing):
        raise NoStanding()


def check_both(home, one, other):
    """Raise NoStanding unless both are standings."""
    check_standing(home, one)
    check_standing(home, other)


def check_thing(home, thing):
    """Raise NoThing for what is no thing."""
    if not is_thing(home.many, thing):
        raise NoThing()


def led(home, lot):
    """The ascending tuple of the pairs as they are led with the lot turned."""
    check_lot(home, lot)
    return tuple(sorted(led_pairs(home, lot)))


def ring(home, lot):
    """The least of the shortest rings with the lot turned, from its least thing on, or None."""
    check_lot(home, lot)
    return least_ring(led_pairs(home, lot))


def way(home, lot, u, v):
    """The least of the shortest ways from u to v along the lot's arrows as the home has them, or None."""
    check_lot(home, lot)
    check_thing(home, u)
    check_thing(home, v)
    return least_way(lot, u, v)


def order(home, standing):
    """The least tuple of all things in which everybody stands ahead of those that it is ahead of."""
    check_standing(home, standing)
    return least_order(list(range(home.many)), led_pairs(home, standing))


def is_order(home, value):
    """Whether a value is a tuple of all things, each once."""
    if not isinstance(value, tuple) or not all([is_integer(thing) for thing in value]):
        return False
    return sorted(value) == list(range(home.many))


def from_order(home, order):
    """The standing with which whoever stands ahead in the order is ahead."""
    if not is_order(home, order):
        raise NoOrder()
    places = {thing: place for place, thing in enumerate(order)}
    return tuple([(u, v) for u, v in home.arrows if places[v] < places[u]])


def bare(home, standing):
    """The ascending tuple of the arrows with no way between their things but their own pair."""
    check_standing(home, standing)
    return bare_arrows(home, standing)


def blocks(home):
    """The ascending tuple of the blocks, each an ascending tuple of things."""
    groups = [_groups_without(home, out) for out in range(home.many)]
    return tuple(sorted({_block_of(groups, u, v) for u, v in home.arrows}))


def _groups_without(home, out):
    """A number for each thing, the same for those that hang together when one thing is taken out."""
    group = list(range(home.many))
    for u, v in home.arrows:
        if out not in (u, v):
            old, new = group[u], group[v]
            group = [new if number == old else number for number in group]
    return group


def _block_of(groups, u, v):
    """The block of two tied things: nobody in it can be cut off from them by one thing alone."""
    return tuple([thing for thing in range(len(groups)) if _hangs_on(groups, thing, u, v)])


def _hangs_on(groups, thing, u, v):
    """Whether a thing hangs together with two tied ones, whichever other thing is taken out."""
    for out, group in enumerate(groups):
        stays = v if out == u else u
        if out != thing and group[thing] != group[stays]:
            return False
    return True


def turned_home(home, standing):
    """The Home with just the pairs as they are led with the standing turned."""
    check_standing(home, standing)
    return Home(home.many, tuple(led_pairs(home, standing)))


def seen_from(home, standing, other):
    """The standing of turned_home(home, standing) that leads all as the other standing does here."""
    check_both(home, standing, other)
    apart = differing(standing, other)
    pairs = led_pairs(home, standing)
    return tuple(sorted([pair for arrow, pair in zip(home.arrows, pairs) if arrow in apart]))
