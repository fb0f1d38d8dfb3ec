"""Standings of a spined home joined and met, and lots that are closed twice."""

from turnedapart.errors import NotSpined
from turnedapart.homes import blocks, check_both, check_lot
from turnedapart.pairs import differing, spanned_lot
from turnedapart.spined import is_spined


def _check_spined(home):
    """Raise NotSpined for a home that is not spined."""
    if not is_spined(home):
        raise NotSpined()


def join(home, one, other):
    """The least standing that has all that both have."""
    check_both(home, one, other)
    _check_spined(home)
    return spanned_lot(home, one + other)


def meet(home, one, other):
    """The greatest standing that has only what both have."""
    check_both(home, one, other)
    _check_spined(home)
    # Seen from all arrows turned, a standing is what it lacks: what the meet lacks is the join of what both lack.
    return _lacking(home, spanned_lot(home, _lacking(home, one) + _lacking(home, other)))


def _lacking(home, lot):
    """The lot of all other arrows."""
    return differing(home.arrows, lot)


def is_closed_twice(home, lot):
    """Whether the lot has all arrows that it spans, and lacks all that the other arrows span."""
    check_lot(home, lot)
    rest = _lacking(home, lot)
    return spanned_lot(home, lot) == lot and spanned_lot(home, rest) == rest


def distributes(home):
    """Whether meeting distributes over joining for all standings."""
    _check_spined(home)
    # It does exactly if no closed round can be made of the ties: if no block has more than two things.
    return all([len(block) == 2 for block in blocks(home)])
