"""Hands that clash: which of them don't fit together, and who heals most by staying away."""

from turnedapart.errors import TooMany
from turnedapart.homes import is_standing
from turnedapart.joints import check_hands
from turnedapart.pairs import spanned_lot, touched_lot

_MOST_CLASHING = 12


def fit(home, hands):
    """Whether the touched lot itself is a standing."""
    check_hands(home, hands)
    return is_standing(home, touched_lot(hands))


def clashes(home, hands):
    """The ascending list of the tuples of indexes of hands that don't fit, while every lesser lot of them does."""
    check_hands(home, hands)
    many = len(hands)
    if many > _MOST_CLASHING:
        raise TooMany(_MOST_CLASHING)
    found = []
    # Lots of hands are numbers whose bits are their indexes. More hands may fit again where fewer don't,
    # so calm are only those lots within which no lesser one is left that doesn't fit.
    calm = {0: True}
    for lot in range(1, 1 << many):
        some = tuple([index for index in range(many) if lot >> index & 1])
        if all([lot ^ (1 << index) in calm for index in some]):
            if is_standing(home, touched_lot([hands[index] for index in some])):
                calm[lot] = True
            else:
                found.append(some)
    return sorted(found)


def healer(home, hands):
    """The least index of a hand without which the others span the fewest arrows beyond their touched ones."""
    check_hands(home, hands)
    if len(hands) == 1:
        return -1
    counts = [_many_beyond(home, hands[:index] + hands[index + 1:]) for index in range(len(hands))]
    return counts.index(min(counts))


def _many_beyond(home, hands):
    """How many arrows are spanned by hands and not touched by them."""
    touched = touched_lot(hands)
    return len(spanned_lot(home, touched)) - len(touched)
