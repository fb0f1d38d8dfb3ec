"""All runs of a yard without turns: where crews are stuck for good, and how many runs there are."""

from turnedapart.crews import all_stuck, bad_crew, beginning, behind, check_crews, moves_now, now_behind, orders_of
from turnedapart.errors import TooMany
from turnedapart.homes import check_lot
from turnedapart.pairs import least_ring, led_pairs

_MOST_NOWS = 5000


def _checked_orders(home, lot, crews):
    """The crews with their needs in order; the errors of a yard."""
    check_lot(home, lot)
    check_crews(home, lot, crews)
    return orders_of(home, lot, crews)


def _all_nows(orders):
    """For each tuple of now that moves lead to the one ahead of it and the move between; TooMany beyond so many."""
    # However a tuple of now is come to, as many moves lead there: those of fewer moves come first.
    found = {}
    border = {beginning(orders): None}
    while border:
        beyond = {}
        for now, last in border.items():
            found[now] = last
            for move in moves_now(orders, now):
                beyond.setdefault(behind(now, move), (now, move))
        if len(found) + len(beyond) > _MOST_NOWS:
            raise TooMany(_MOST_NOWS)
        border = beyond
    return found


def _is_halted(orders, now):
    """Whether no move can be made, and some crew has not done all rounds."""
    left = [crew for crew, (done, many) in zip(orders, now) if done < len(crew)]
    return len(left) > 0 and not moves_now(orders, now)


def stuck_run(home, lot, crews):
    """A tuple of moves behind which no move can be made and some crew has not done all rounds, or None."""
    orders = _checked_orders(home, lot, crews)
    found = _all_nows(orders)
    halted = [now for now in found if _is_halted(orders, now)]
    if not halted:
        return None
    row = []
    last = found[halted[0]]
    while last is not None:
        now, move = last
        row.append(move)
        last = found[now]
    return tuple(row[::-1])


def is_stuck_run(home, lot, crews, thing):
    """Whether a thing is such a tuple of moves."""
    orders = _checked_orders(home, lot, crews)
    now = now_behind(orders, thing)
    return now is not None and _is_halted(orders, now)


def many_runs(home, lot, crews):
    """How many tuples of moves lead from the beginning to where no move can be made."""
    orders = _checked_orders(home, lot, crews)
    found = _all_nows(orders)
    ways = {now: 0 for now in found}
    ways[beginning(orders)] = 1
    total = 0
    for now in found:
        moves = moves_now(orders, now)
        for move in moves:
            ways[behind(now, move)] += ways[now]
        if not moves:
            total += ways[now]
    return total


def made_stuck(home, lot):
    """None for a standing, else a pair of crews and moves behind which all of them are stuck."""
    check_lot(home, lot)
    around = least_ring(led_pairs(home, lot))
    if around is None:
        return None
    # Each crew takes a thing of the ring, and then waits for the next one.
    places = range(len(around))
    needs = [tuple(sorted((around[k - 1], around[k]))) for k in places]
    return tuple([(need,) for need in needs]), tuple([("take", k) for k in places])


def is_made_stuck(home, lot, thing):
    """Whether a thing is such a pair."""
    check_lot(home, lot)
    around = least_ring(led_pairs(home, lot))
    if around is None or not isinstance(thing, tuple) or len(thing) != 2:
        return False
    crews, moves = thing
    if bad_crew(home, lot, crews) is not None or len(crews) != len(around):
        return False
    if not all([len(crew) == 1 and len(crew[0]) == 2 for crew in crews]):
        return False
    orders = orders_of(home, lot, crews)
    now = now_behind(orders, moves)
    return now is not None and len(all_stuck(orders, now)) == len(crews)
