"""Stages: from one standing to another by tuples of arrows that may be turned in any order."""

from turnedapart.errors import TooMany
from turnedapart.homes import check_both, is_lot, is_standing
from turnedapart.pairs import differing, least_way, led_pairs, lots_within

_MOST_APART = 8


def stages(home, one, other):
    """A list of as few such tuples as can be that lead from one standing to the other."""
    check_both(home, one, other)
    apart = differing(one, other)
    if len(apart) > _MOST_APART:
        raise TooMany(_MOST_APART)
    free = _free_turns(home, one, apart)
    # Lots of these arrows are numbers whose bits are their places; a lesser lot has a lesser number.
    rows = {0: ()}
    for lot in range(1, 1 << len(apart)):
        last = [stage for stage in lots_within(lot) if stage and lot ^ stage in rows and free[lot ^ stage, stage]]
        if last:
            rows[lot] = min([rows[lot ^ stage] + (stage,) for stage in last], key=len)
    return [tuple(_picked(apart, stage)) for stage in rows[(1 << len(apart)) - 1]]


def _picked(apart, lot):
    """The arrows whose places are the bits of a number."""
    return [arrow for place, arrow in enumerate(apart) if lot >> place & 1]


def _free_turns(home, one, apart):
    """For each two lots without shared arrows: whether, the first turned, any of the second may be turned, too."""
    lots = range(1 << len(apart))
    free = {(lot, 0): is_standing(home, differing(one, _picked(apart, lot))) for lot in lots}
    for stage in range(1, 1 << len(apart)):
        least = stage & -stage
        rest = stage ^ least
        for lot in lots:
            if not lot & stage:
                free[lot, stage] = free[lot, rest] and free[lot | least, rest]
    return free


def is_stages(home, one, other, thing):
    """Whether a thing is a list of such tuples, however many."""
    check_both(home, one, other)
    if not isinstance(thing, list) or not all([is_lot(home, stage) and len(stage) > 0 for stage in thing]):
        return False
    if sorted([arrow for stage in thing for arrow in stage]) != list(differing(one, other)):
        return False
    standing = one
    for stage in thing:
        if not _are_free(home, standing, stage):
            return False
        standing = differing(standing, stage)
    return True


def _are_free(home, standing, stage):
    """Whether there is a standing however many of the arrows of a stage are turned."""
    # If each of them is led both ways at once, a ring of three things or more is one that some of them
    # make; where there is one, a way leads back from one of its things to the one ahead.
    both = sorted(set(led_pairs(home, standing)) | set(led_pairs(home, differing(standing, stage))))
    return all([least_way([pair for pair in both if pair != (v, u)], v, u) is None for u, v in both])
