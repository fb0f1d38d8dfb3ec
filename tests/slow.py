"""What DOC.md says, tried out word by word in small homes, and values of every kind for the tests."""

from functools import lru_cache
from itertools import combinations, permutations, product
from random import Random

from turnedapart.homes import Home


def nested(deep, kind):
    """A value nested so deep in lists, tuples or dicts."""
    value = 0
    for _ in range(deep):
        value = {"a": value} if kind is dict else kind([value])
    return value


ODD_VALUES = (
    None, True, False, 0, 1, -1, 2, 11, 10 ** 29, -10 ** 29, "", "many", "0", "(0, 1)", "a\nb", "~" * 20000,
    (), [], {}, (0,), (1, 0), [0, 1], (True, False), (False, True), (0, True), (0, 1, 2), (0, 0), ("0", "1"),
    (None, None), ((0, 1),), [(0, 1)], ([0, 1],), ((0, 1), 2), ((True, False),), ((False, True),), ("ab",),
    ((0, 1), (0, 1)), ((0, 1), None), ((0, 9),), ((9, 0),), ((-1, 0),), ((0, 10 ** 29),), {0: 1}, {"a": [0]},
    ((0, 1, 2),), ((0,),), ((),), (((0, 1),),), ({0: 1, 1: 0},), ({},), nested(30, list), nested(30, tuple),
    nested(30, dict), (nested(29, tuple), 1), ((nested(28, list), nested(28, dict)),), Home(2, ((0, 1),)),
    (Home(2, ()), Home(2, ())), ((Home(1, ()), 1),),
)


def homes_of_size(many):
    """All homes of so many things."""
    ties = list(combinations(range(many), 2))
    found = []
    for ways in product((None, False, True), repeat=len(ties)):
        arrows = tuple((v, u) if way else (u, v) for (u, v), way in zip(ties, ways) if way is not None)
        if not rings(many, arrows):
            found.append(Home(many, arrows))
    return found


@lru_cache(maxsize=None)
def small_homes():
    """All homes of one to three things, some of four and five."""
    found = homes_of_size(1) + homes_of_size(2) + homes_of_size(3) + homes_of_size(4)[::23]
    return tuple(found + [random_home(5, seed) for seed in range(6)])


def random_home(many, seed, share=0.75):
    """A home with an order that the seed gives, and about such a share of all possible ties."""
    source = Random(seed)
    things = list(range(many))
    source.shuffle(things)
    return Home(many, tuple(pair for pair in combinations(things, 2) if source.random() < share))


def some_pairs(standings, seed, most=12):
    """Pairs of standings: all, or so many of them that the seed gives."""
    pairs = list(product(standings, repeat=2))
    return pairs if len(pairs) <= most else Random(seed).sample(pairs, most)


def pairs_led(home, lot):
    return tuple(sorted((v, u) if (u, v) in lot else (u, v) for u, v in home.arrows))


def ways(many, pairs, u, v):
    """All ways from u to v, the least of the shortest one first."""
    found = []
    for size in range(1, many + 1):
        for row in permutations(range(many), size):
            if row[0] == u and row[-1] == v and all(step in pairs for step in zip(row, row[1:])):
                found.append(row)
    return found


def rings(many, pairs):
    """All rings that begin with their least thing, the least of the shortest one first."""
    found = []
    for size in range(2, many + 1):
        for row in permutations(range(many), size):
            if row[0] == min(row) and all(step in pairs for step in zip(row, row[1:] + row[:1])):
                found.append(row)
    return found


def lots(home):
    return [lot for size in range(len(home.arrows) + 1) for lot in combinations(home.arrows, size)]


@lru_cache(maxsize=None)
def _standings(many, arrows):
    home = Home(many, arrows)
    return tuple(sorted(lot for lot in lots(home) if not rings(many, pairs_led(home, lot))))


def standings(home):
    """All standings, ascending."""
    return _standings(home.many, home.arrows)


def turned(lot, arrow):
    return tuple(sorted(set(lot) - {arrow} if arrow in lot else set(lot) | {arrow}))


def orders(home, standing):
    """All orders in which everybody stands ahead of those that it is ahead of, ascending."""
    pairs = pairs_led(home, standing)
    rows = permutations(range(home.many))
    return [row for row in rows if all(row.index(u) < row.index(v) for u, v in pairs)]


def bare(home, standing):
    found = []
    for u, v in home.arrows:
        first, last = (v, u) if (u, v) in standing else (u, v)
        if ways(home.many, pairs_led(home, standing), first, last) == [(first, last)]:
            found.append((u, v))
    return tuple(found)


def hang_together(home, things):
    """Whether ties among these things alone lead from each of them to each other one."""
    reached = {things[0]} if things else set()
    for _ in things:
        for u, v in home.arrows:
            if u in things and v in things and (u in reached or v in reached):
                reached |= {u, v}
    return len(reached) == len(things)


def blocks(home):
    found = []
    for size in range(2, home.many + 1):
        for things in combinations(range(home.many), size):
            lesser = [tuple(x for x in things if x != out) for out in things]
            if hang_together(home, things) and all(hang_together(home, some) for some in lesser):
                found.append(things)
    whole = [some for some in found if not any(set(some) < set(other) for other in found)]
    return tuple(sorted(whole))


def rows(home, one, other):
    """All shortest rows from one standing to the other, ascending."""
    every = set(standings(home))
    border = [(one, ())]
    while not any(standing == other for standing, _ in border):
        border = [(turned(standing, arrow), row + (arrow,)) for standing, row in border
                  for arrow in home.arrows if turned(standing, arrow) in every and arrow not in row]
    return sorted(row for standing, row in border if standing == other)


def touched(hands):
    return sorted({arrow for standing in hands for arrow in standing})


def spanned(home, hands):
    return tuple((u, v) for u, v in home.arrows if ways(home.many, touched(hands), u, v))


def joints(home, hands):
    """All joint standings, ascending."""
    together = set(touched(hands))
    return [standing for standing in standings(home) if together <= set(standing)]


def least_of(lots):
    """Those of some lots within which no other one lies."""
    return [lot for lot in lots if not any(set(other) < set(lot) for other in lots)]


def one_least(lots):
    """The one of some lots that lies within all others, or None."""
    found = [lot for lot in lots if all(set(lot) <= set(other) for other in lots)]
    return found[0] if found else None


def one_greatest(lots):
    found = [lot for lot in lots if all(set(other) <= set(lot) for other in lots)]
    return found[0] if found else None


def some_hands(home, seed, most=12):
    """Hands of one, two and three standings: so many of each that the seed gives."""
    source = Random(seed)
    every = standings(home)
    return [tuple(source.choice(every) for _ in range(many)) for many in (1, 2, 3) for _ in range(most)]


def quarrelling(home, seed, most):
    """Pairs of standings, so many that the seed gives, for which there is no one least joint standing."""
    every = standings(home)
    found = [pair for pair in combinations(every, 2) if one_least(joints(home, pair)) is None]
    return Random(seed).sample(found, min(most, len(found)))


@lru_cache(maxsize=None)
def rounds_of_ties():
    """All homes of three to five things whose ties are one closed round."""
    found = []
    for many in (3, 4, 5):
        for ways_led in product((False, True), repeat=many):
            ties = [(k, (k + 1) % many) for k in range(many)]
            arrows = tuple((v, u) if way else (u, v) for (u, v), way in zip(ties, ways_led))
            if 0 < sum(ways_led) < many:
                found.append(Home(many, arrows))
    return found


def all_rings(many, pairs):
    """All rings, from each of their things on."""
    return [row[k:] + row[:k] for row in rings(many, pairs) for k in range(len(row))]


def orders_of_all(many):
    return list(permutations(range(many)))


def standing_of(home, row):
    return tuple((u, v) for u, v in home.arrows if row.index(v) < row.index(u))


def parts(home):
    return [part for size in range(home.many + 1) for part in combinations(range(home.many), size)]


def bare_in(home, part):
    """The arrows that are bare in a part."""
    among = [(u, v) for u, v in home.arrows if u in part and v in part]
    return [pair for pair in among if not leads([other for other in among if other != pair], *pair)]


def leads(pairs, u, v):
    """Whether a way leads from one thing to another one, where there is no ring."""
    return u == v or any(leads(pairs, other, v) for first, other in pairs if first == u)


def closed_rounds(home, part):
    """All closed rounds of bare arrows of a part, each from each of its things on, both ways about."""
    bare = bare_in(home, part)
    near = bare + [(v, u) for u, v in bare]
    sizes = range(3, len(part) + 1) if len(bare) > 2 else ()
    rows = [row for size in sizes for row in permutations(part, size)]
    return [row for row in rows if all(step in near for step in zip(row, row[1:] + row[:1]))]


@lru_cache(maxsize=None)
def _is_spined(many, arrows):
    home = Home(many, arrows)
    return not any(closed_rounds(home, part) for part in parts(home))


def is_spined(home):
    return _is_spined(home.many, home.arrows)


def only_these(home, things):
    """The home of some of its things alone, numbered anew."""
    numbers = {thing: number for number, thing in enumerate(things)}
    arrows = [(numbers[u], numbers[v]) for u, v in home.arrows if u in numbers and v in numbers]
    return Home(len(things), tuple(arrows))


@lru_cache(maxsize=None)
def bad_homes():
    """Some homes of four and five things that are not spined."""
    some = [random_home(5, seed, 0.55) for seed in range(60)]
    return tuple(home for home in homes_of_size(4) + rounds_of_ties() + some if not is_spined(home))
