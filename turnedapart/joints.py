"""Hands put together: what they span, the one least joint standing, or their quarrel and all least ones."""

from turnedapart.errors import NoArrow, NoHands, TooMany
from turnedapart.homes import check_lot, from_order, is_order, is_standing
from turnedapart.pairs import (bare_arrows, has_ring, is_arrow, is_ring, least_order, least_ring, least_way,
                               led_pairs, spanned_lot, toggled, touched_lot, turned_round)

_MOST_HANDS = 40
_MOST_THINGS = 7


def is_hands(home, thing):
    """Whether a thing is a tuple of 1 to 40 standings of the home."""
    if not isinstance(thing, tuple) or not 1 <= len(thing) <= _MOST_HANDS:
        return False
    return all([is_standing(home, standing) for standing in thing])


def check_hands(home, hands):
    """Raise NoHands for what is no hands."""
    if not is_hands(home, hands):
        raise NoHands()


def spanned(home, hands):
    """The lot of the arrows between whose things a way leads along touched ones."""
    check_hands(home, hands)
    return spanned_lot(home, touched_lot(hands))


def reason(home, hands, arrow):
    """The least of the shortest ways along touched arrows from an arrow's first thing to its second one, or None."""
    check_hands(home, hands)
    if not is_arrow(home, arrow):
        raise NoArrow()
    u, v = arrow
    return least_way(touched_lot(hands), u, v)


def is_joint(home, hands, thing):
    """Whether a thing is a standing that has all touched arrows."""
    check_hands(home, hands)
    return is_standing(home, thing) and _has_all(thing, touched_lot(hands))


def _has_all(lot, touched):
    """Whether all touched arrows are in a lot."""
    return all([arrow in lot for arrow in touched])


def joint(home, hands):
    """The one least joint standing, or None if there is none."""
    check_hands(home, hands)
    return least_joint(home, touched_lot(hands))


def least_joint(home, touched):
    """The one least standing that has all touched arrows, or None."""
    lot = spanned_lot(home, touched)
    # All spanned arrows, and no others, are in every joint standing: only they can be the least one.
    return lot if is_standing(home, lot) else None


def quarrel(home, hands):
    """None if there is one least joint standing, else a ring and two arrows in it, each with an order without it."""
    lot = spanned(home, hands)
    ring = least_ring(led_pairs(home, lot))
    if ring is None:
        return None
    # There are two: were all arrows of the ring but one spanned, these would span that one as well.
    one, other = sorted(_unspanned(home, lot, ring))[:2]
    return ring, (one, _order_without(home, hands, one)), (other, _order_without(home, hands, other))


def _unspanned(home, lot, ring):
    """The arrows between neighbours of a ring that are not in the spanned lot."""
    near = {(ring[k - 1], ring[k]): True for k in range(len(ring))}
    return [(u, v) for u, v in home.arrows if (u, v) not in lot and ((u, v) in near or (v, u) in near)]


def _order_without(home, hands, arrow):
    """An order of a joint standing without an arrow that is not spanned."""
    return least_order(list(range(home.many)), turned_round(touched_lot(hands)) + [arrow])


def is_quarrel(home, hands, thing):
    """Whether a thing is such a triple as a quarrel is."""
    lot = spanned(home, hands)
    if not isinstance(thing, tuple) or len(thing) != 3:
        return False
    ring, one, other = thing
    if not is_ring(home.many, led_pairs(home, lot), ring):
        return False
    free = _unspanned(home, lot, ring)
    if not all([_is_side(home, hands, free, side) for side in (one, other)]):
        return False
    return one[0] != other[0]


def _is_side(home, hands, free, side):
    """Whether a value is a pair of one of the free arrows and an order of a joint standing without it."""
    if not isinstance(side, tuple) or len(side) != 2:
        return False
    arrow, row = side
    if not is_arrow(home, arrow) or arrow not in free or not is_order(home, row):
        return False
    standing = from_order(home, row)
    return arrow not in standing and _has_all(standing, touched_lot(hands))


def least_joints(home, hands):
    """The ascending list of all joint standings within which no other one lies."""
    check_hands(home, hands)
    if home.many > _MOST_THINGS:
        raise TooMany(_MOST_THINGS)
    touched = touched_lot(hands)
    found = []
    # Between two standings leads a row of single turns, so all joint ones lie below all arrows turned.
    seen = {home.arrows: True}
    border = [home.arrows]
    while border:
        standing = border.pop()
        lesser = _one_arrow_less(home, standing, touched)
        if not lesser:
            found.append(standing)
        for below in lesser:
            if below not in seen:
                seen[below] = True
                border.append(below)
    return sorted(found)


def _one_arrow_less(home, standing, touched):
    """The standings that one arrow turned back alone leads to, but for touched ones."""
    loose = [arrow for arrow in bare_arrows(home, standing) if arrow in standing and arrow not in touched]
    return [toggled(standing, arrow) for arrow in loose]


def _kept_pairs(home, hands, kept):
    """The touched arrows turned, and the kept ones as they are."""
    check_hands(home, hands)
    check_lot(home, kept)
    return turned_round(touched_lot(hands)) + list(kept)


def kept_joint(home, hands, kept):
    """A joint standing with none of the kept arrows, or None."""
    pairs = _kept_pairs(home, hands, kept)
    if has_ring(home.many, pairs):
        return None
    return from_order(home, least_order(list(range(home.many)), pairs))


def kept_ring(home, hands, kept):
    """A ring along touched arrows turned and kept ones as they are, or None if kept_joint tells a standing."""
    return least_ring(_kept_pairs(home, hands, kept))


def is_kept_ring(home, hands, kept, thing):
    """Whether a thing is a ring along touched arrows turned and kept ones as they are."""
    return is_ring(home.many, _kept_pairs(home, hands, kept), thing)
