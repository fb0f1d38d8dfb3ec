"""Crews at work: their needs, what each of them holds and waits for, and which moves can be made.

What is done is told by a tuple of now: for each crew the pair of how many rounds it has done and how many
things it holds. Orders are the crews with the things of each need in the order in which they are taken.
"""

from turnedapart.errors import BadCrews
from turnedapart.pairs import are_things, has_ring, is_integer, least_order, led_pairs

_MOST_CREWS = 10
_MOST_ROUNDS = 6
_MOST_NEEDED = 5


def bad_crew(home, lot, value):
    """None for crews whose needs the lot orders, -1 for what is no tuple of so many, else the first wrong one."""
    if not isinstance(value, tuple) or len(value) > _MOST_CREWS:
        return -1
    pairs = led_pairs(home, lot)
    wrong = [index for index, crew in enumerate(value) if not _is_crew(home.many, pairs, crew)]
    return min(wrong, default=None)


def _is_crew(many, pairs, value):
    """Whether a value is a tuple of not too many needs that the led pairs order."""
    if not isinstance(value, tuple) or len(value) > _MOST_ROUNDS:
        return False
    return all([_is_need(many, pairs, need) for need in value])


def _is_need(many, pairs, value):
    """Whether a value is an ascending tuple of some things, each two led one way or the other, without a ring."""
    if not are_things(many, value) or not 1 <= len(value) <= _MOST_NEEDED:
        return False
    among = [(u, v) for u, v in pairs if u in value and v in value]
    return 2 * len(among) == len(value) * (len(value) - 1) and not has_ring(many, among)


def check_crews(home, lot, crews):
    """Raise BadCrews for crews that can't work by the lot."""
    index = bad_crew(home, lot, crews)
    if index is not None:
        raise BadCrews(index)


def orders_of(home, lot, crews):
    """The crews, the things of each need in its order with the lot turned."""
    pairs = led_pairs(home, lot)
    return tuple([tuple([least_order(need, pairs) for need in crew]) for crew in crews])


def beginning(crews):
    """The tuple of now ahead of all moves."""
    return ((0, 0),) * len(crews)


def held_by(orders, now, crew):
    """The tuple of the things that a crew holds, as they were taken."""
    done, many = now[crew]
    return orders[crew][done][:many] if many else ()


def all_held(orders, now):
    """For each thing that is held the crew that holds it."""
    return {thing: crew for crew in range(len(now)) for thing in held_by(orders, now, crew)}


def next_thing(orders, now, crew):
    """What a crew is to take next, or None if it holds all of its need, or has done all rounds."""
    done, many = now[crew]
    if done == len(orders[crew]) or many == len(orders[crew][done]):
        return None
    return orders[crew][done][many]


def can_leave(orders, now, crew):
    """Whether a crew holds all of its need."""
    done, many = now[crew]
    return done < len(orders[crew]) and many == len(orders[crew][done])


def moves_now(orders, now):
    """All moves that can be made, the leaving ones first, those of lesser crews ahead."""
    held = all_held(orders, now)
    crews = range(len(now))
    leaving = [("leave", crew) for crew in crews if can_leave(orders, now, crew)]
    wanted = [(crew, next_thing(orders, now, crew)) for crew in crews]
    return leaving + [("take", crew) for crew, thing in wanted if thing is not None and thing not in held]


def behind(now, move):
    """The tuple of now behind a move."""
    word, crew = move
    done, many = now[crew]
    there = (done, many + 1) if word == "take" else (done + 1, 0)
    return now[:crew] + (there,) + now[crew + 1:]


def is_move(orders, now, value):
    """Whether a value is a move that can be made."""
    if not isinstance(value, tuple) or len(value) != 2:
        return False
    word, crew = value
    # The kinds are judged first: ("take", True) would equal the move ("take", 1).
    return isinstance(word, str) and is_integer(crew) and value in moves_now(orders, now)


def now_behind(orders, value):
    """The tuple of now behind a tuple of moves, or None for what is no tuple of moves that can be made so."""
    if not isinstance(value, tuple):
        return None
    now = beginning(orders)
    for move in value:
        if not is_move(orders, now, move):
            return None
        now = behind(now, move)
    return now


def all_waits(orders, now):
    """The ascending tuple of the pairs of a crew and the one that holds what it is to take next."""
    held = all_held(orders, now)
    wanted = [(crew, next_thing(orders, now, crew)) for crew in range(len(now))]
    return tuple([(crew, held[thing]) for crew, thing in wanted if thing in held])


def all_stuck(orders, now):
    """The ascending tuple of the crews from which waits lead into a ring of waits."""
    waits = {crew: other for crew, other in all_waits(orders, now)}
    return tuple([crew for crew in waits if _leads_on(waits, crew)])


def _leads_on(waits, crew):
    """Whether waits lead on and on from a crew: then they have come into a ring."""
    here = crew
    for _ in waits:
        here = waits.get(here)
    return here in waits
