"""What DOC.md says, tried out word by word in small homes, and values of every kind for the tests."""

from functools import lru_cache
from itertools import combinations, permutations, product
from random import Random

from turnedapart.homes import Home


def nested(deep, kind):
    """A value nested so deep in lists, tuples or dicts."""
    value = 0
    for _ in range(deep):
        value = {"a": value} if kind is dict else kind([value])
    return value


ODD_VALUES = (
    None, True, False, 0, 1, -1, 2, 11, 10 ** 29, -10 ** 29, "", "many", "0", "(0, 1)", "a\nb", "~" * 20000,
    (), [], {}, (0,), (1, 0), [0, 1], (True, False), (False, True), (0, True), (0, 1, 2), (0, 0), ("0", "1"),
    (None, None), ((0, 1),), [(0, 1)], ([0, 1],), ((0, 1), 2), ((True, False),), ((False, True),), ("ab",),
    ((0, 1), (0, 1)), ((0, 1), None), ((0, 9),), ((9, 0),), ((-1, 0),), ((0, 10 ** 29),), {0: 1}, {"a": [0]},
    ((0, 1, 2),), ((0,),), ((),), (((0, 1),),), ({0: 1, 1: 0},), ({},), nested(30, list), nested(30, tuple),
    nested(30, dict), (nested(29, tuple), 1), ((nested(28, list), nested(28, dict)),), Home(2, ((0, 1),)),
    (Home(2, ()), Home(2, ())), ((Home(1, ()), 1),),
)


def homes_of_size(many):
    """All homes of so many things."""
    ties = list(combinations(range(many), 2))
    found = []
    for ways in product((None, False, True), repeat=len(ties)):
        arrows = tuple((v, u) if way else (u, v) for (u, v), way in zip(ties, ways) if way is not None)
        if not rings(many, arrows):
            found.append(Home(many, arrows))
    return found


@lru_cache(maxsize=None)
def small_homes():
    """All homes of one to three things, some of four and five."""
    found = homes_of_size(1) + homes_of_size(2) + homes_of_size(3) + homes_of_size(4)[::23]
    return tuple(found + [random_home(5, seed) for seed in range(6)])


def random_home(many, seed):
    """A home with an order that the seed gives, and about three of four possible ties."""
    source = Random(seed)
    things = list(range(many))
    source.shuffle(things)
    return Home(many, tuple(pair for pair in combinations(things, 2) if source.random() < 0.75))


def some_pairs(standings, seed, most=12):
    """Pairs of standings: all, or so many of them that the seed gives."""
    pairs = list(product(standings, repeat=2))
    return pairs if len(pairs) <= most else Random(seed).sample(pairs, most)


def pairs_led(home, lot):
    return tuple(sorted((v, u) if (u, v) in lot else (u, v) for u, v in home.arrows))


def ways(many, pairs, u, v):
    """All ways from u to v, the least of the shortest one first."""
    found = []
    for size in range(1, many + 1):
        for row in permutations(range(many), size):
            if row[0] == u and row[-1] == v and all(step in pairs for step in zip(row, row[1:])):
                found.append(row)
    return found


def rings(many, pairs):
    """All rings that begin with their least thing, the least of the shortest one first."""
    found = []
    for size in range(2, many + 1):
        for row in permutations(range(many), size):
            if row[0] == min(row) and all(step in pairs for step in zip(row, row[1:] + row[:1])):
                found.append(row)
    return found


def lots(home):
    return [lot for size in range(len(home.arrows) + 1) for lot in combinations(home.arrows, size)]


@lru_cache(maxsize=None)
def _standings(many, arrows):
    home = Home(many, arrows)
    return tuple(sorted(lot for lot in lots(home) if not rings(many, pairs_led(home, lot))))


def standings(home):
    """All standings, ascending."""
    return _standings(home.many, home.arrows)


def turned(lot, arrow):
    return tuple(sorted(set(lot) - {arrow} if arrow in lot else set(lot) | {arrow}))


def orders(home, standing):
    """All orders in which everybody stands ahead of those that it is ahead of, ascending."""
    pairs = pairs_led(home, standing)
    rows = permutations(range(home.many))
    return [row for row in rows if all(row.index(u) < row.index(v) for u, v in pairs)]


def bare(home, standing):
    found = []
    for u, v in home.arrows:
        first, last = (v, u) if (u, v) in standing else (u, v)
        if ways(home.many, pairs_led(home, standing), first, last) == [(first, last)]:
            found.append((u, v))
    return tuple(found)


def hang_together(home, things):
    """Whether ties among these things alone lead from each of them to each other one."""
    reached = {things[0]} if things else set()
    for _ in things:
        for u, v in home.arrows:
            if u in things and v in things and (u in reached or v in reached):
                reached |= {u, v}
    return len(reached) == len(things)


def blocks(home):
    found = []
    for size in range(2, home.many + 1):
        for things in combinations(range(home.many), size):
            lesser = [tuple(x for x in things if x != out) for out in things]
            if hang_together(home, things) and all(hang_together(home, some) for some in lesser):
                found.append(things)
    whole = [some for some in found if not any(set(some) < set(other) for other in found)]
    return tuple(sorted(whole))


def rows(home, one, other):
    """All shortest rows from one standing to the other, ascending."""
    every = set(standings(home))
    border = [(one, ())]
    while not any(standing == other for standing, _ in border):
        border = [(turned(standing, arrow), row + (arrow,)) for standing, row in border
                  for arrow in home.arrows if turned(standing, arrow) in every and arrow not in row]
    return sorted(row for standing, row in border if standing == other)
