"""Things, pairs of things, and ways along pairs: what all parts need. Nothing is checked here.

A home is read by its `many` and `arrows` alone, so that its own file can stand upon this one.
"""


def is_integer(value):
    """Whether a value is an integer, and no flag."""
    return isinstance(value, int) and not isinstance(value, bool)


def is_thing(many, value):
    """Whether a value is one of so many things."""
    return is_integer(value) and 0 <= value < many


def is_pair(many, value):
    """Whether a value is a pair of two unlike ones of so many things."""
    if not isinstance(value, tuple) or len(value) != 2:
        return False
    u, v = value
    return is_thing(many, u) and is_thing(many, v) and u != v


def is_arrow(home, value):
    """Whether a value is an arrow of the home."""
    # The kind is judged first: (True, 0) would equal the arrow (1, 0).
    return is_pair(home.many, value) and value in home.arrows


def is_ascending(row):
    """Whether each item of a row is less than the next one."""
    return all([row[k] < row[k + 1] for k in range(len(row) - 1)])


def are_things(many, value):
    """Whether a value is an ascending tuple of some of so many things."""
    if not isinstance(value, tuple) or not all([is_thing(many, thing) for thing in value]):
        return False
    return is_ascending(value)


def is_ring(many, pairs, value):
    """Whether a value is a tuple of unlike things, some pairs leading from each to the next, the last to the first."""
    if not isinstance(value, tuple) or not all([is_thing(many, thing) for thing in value]):
        return False
    if not value or len(set(value)) != len(value):
        return False
    return all([(value[k - 1], value[k]) in pairs for k in range(len(value))])


def lots_within(lot):
    """All lots within a lot, itself too, where lots are told by numbers whose bits are what is in them."""
    found = [lot]
    while found[-1]:
        found.append((found[-1] - 1) & lot)
    return found


def differing(one, other):
    """The ascending tuple of the arrows that are in just one of two lots."""
    return tuple(sorted(set(one) ^ set(other)))


def toggled(lot, arrow):
    """The lot with an arrow turned, or turned back if it is in the lot."""
    return differing(lot, (arrow,))


def turned_round(pairs):
    """The pairs, each led the other way."""
    return [(v, u) for u, v in pairs]


def led_pairs(home, lot):
    """The pairs as they are led with the lot turned, in the order of the home's arrows."""
    turned = {arrow: True for arrow in lot}
    return [(v, u) if (u, v) in turned else (u, v) for u, v in home.arrows]


def reaches(many, pairs):
    """For each thing a number whose bits are the things that ways of some pairs lead to from it."""
    reach = [0] * many
    for u, v in pairs:
        reach[u] |= 1 << v
    for middle in range(many):
        for u in range(many):
            if reach[u] >> middle & 1:
                reach[u] |= reach[middle]
    return reach


def has_ring(many, pairs):
    """Whether some of the pairs make a ring."""
    reach = reaches(many, pairs)
    return any([reach[u] >> u & 1 for u in range(many)])


def _beyond(many, pairs):
    """For each thing a number whose bits are the things that ways of two pairs or more lead to, without rings."""
    reach = reaches(many, pairs)
    # As there is no ring, whoever is behind a next thing is reached by a way of two pairs or more.
    beyond = [0] * many
    for u, v in pairs:
        beyond[u] |= reach[v]
    return beyond


def bare_arrows(home, standing):
    """The ascending tuple of the arrows that are bare with the standing turned."""
    pairs = led_pairs(home, standing)
    beyond = _beyond(home.many, pairs)
    return tuple([arrow for arrow, (u, v) in zip(home.arrows, pairs) if not beyond[u] >> v & 1])


def arrows_within(home, part):
    """The arrows between two things of a part."""
    return [(u, v) for u, v in home.arrows if u in part and v in part]


def bare_within(home, part):
    """The arrows that are bare in a part of the home."""
    arrows = arrows_within(home, part)
    beyond = _beyond(home.many, arrows)
    return [(u, v) for u, v in arrows if not beyond[u] >> v & 1]


def touched_lot(hands):
    """The ascending tuple of the arrows that stand in some of the hands."""
    return tuple(sorted({arrow for standing in hands for arrow in standing}))


def spanned_lot(home, touched):
    """The ascending tuple of the arrows between whose things a way leads along touched ones."""
    reach = reaches(home.many, touched)
    return tuple([(u, v) for u, v in home.arrows if reach[u] >> v & 1])


def least_order(things, pairs):
    """The least tuple of some things in which each stands ahead of those that pairs lead it to, without rings."""
    row = []
    left = list(things)
    while left:
        behind = {v: True for u, v in pairs if u in left}
        first = min([thing for thing in left if thing not in behind])
        row.append(first)
        left = [thing for thing in left if thing != first]
    return tuple(row)


def steps_to(pairs, last):
    """From which things ways along the pairs lead to the last one, with the fewest pairs of each."""
    far = {last: 0}
    border = [last]
    many = 0
    while border:
        many += 1
        border = [u for u, v in pairs if v in border and u not in far]
        for u in border:
            far[u] = many
    return far


def least_way(pairs, first, last):
    """The least of the shortest ways from the first thing to the last one, or None."""
    far = steps_to(pairs, last)
    if first not in far:
        return None
    row = [first]
    while row[-1] != last:
        here = row[-1]
        row.append(min([v for u, v in pairs if u == here and far.get(v) == far[here] - 1]))
    return tuple(row)


def least_ring(pairs):
    """The least of the shortest rings, which then begins with its least thing, or None."""
    rings = []
    for u, v in pairs:
        back = least_way(pairs, v, u)
        if back is not None:
            rings.append((u,) + back[:-1])
    return min(rings, key=lambda row: (len(row), row), default=None)


def other_way(home, lot, arrow):
    """The least of the shortest ways between an arrow's things, as led, but its own pair, or None."""
    u, v = arrow
    first, last = (v, u) if arrow in lot else (u, v)
    others = [pair for pair in led_pairs(home, lot) if pair != (first, last)]
    return least_way(others, first, last)
