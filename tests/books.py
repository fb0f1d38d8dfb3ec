"""What DOC.md says of yards, kept as books of the tests' own, word by word, beside the package."""

from copy import deepcopy
from itertools import combinations, permutations

from tests import slow
from turnedapart.errors import TurnError


def told(call, *values):
    """What a call returns, or the name and the fields of the error that it raises."""
    try:
        return call(*values)
    except TurnError as error:
        return refused(type(error).__name__, **vars(error))


def refused(name, **fields):
    return "refused", name, fields


def order_of(home, lot, need):
    """The order in which each of a need's things stands ahead of those that it is ahead of, or None."""
    pairs = slow.pairs_led(home, lot)
    for row in permutations(need):
        if all(pair in pairs for pair in combinations(row, 2)):
            return row
    return None


def needs_of(home, lot, most=5):
    """All needs that the lot orders."""
    every = [things for size in range(1, most + 1) for things in combinations(range(home.many), size)]
    return [need for need in every if order_of(home, lot, need)]


def other_ways(home, lot, arrow):
    """All ways between an arrow's things, as led, but its own pair, the least of the shortest first."""
    first, last = arrow[::-1] if arrow in lot else arrow
    every = slow.ways(home.many, slow.pairs_led(home, lot), first, last)
    return [way for way in every if way != (first, last)]


class YardBook:
    def __init__(self, home, lot, crews):
        self.home, self.lot, self.crews = home, lot, crews
        self.done = [0 for _ in crews]
        self.held = [[] for _ in crews]
        self.orders = [None for _ in crews]
        self.log, self.past = [], []

    def keep(self, item):
        self.past.append(deepcopy((self.lot, self.done, self.held, self.orders)))
        self.log.append(item)

    def need(self, c):
        return self.crews[c][self.done[c]] if self.done[c] < len(self.crews[c]) else None

    def order(self, c):
        return self.orders[c] if self.held[c] else order_of(self.home, self.lot, self.need(c))

    def wanted(self, c):
        """What a crew is to take next, or None."""
        if self.need(c) is None or len(self.held[c]) == len(self.need(c)):
            return None
        return self.order(c)[len(self.held[c])]

    def holder(self, thing):
        found = [c for c in range(len(self.crews)) if thing in self.held[c]]
        return found[0] if found else None

    def take(self, c):
        thing = self.wanted(c)
        if thing is None:
            return refused("NotNow")
        if self.holder(thing) is not None:
            return False
        order = self.order(c)
        self.keep(("take", c))
        self.orders[c] = order
        self.held[c].append(thing)
        return True

    def leave(self, c):
        if not self.may_leave(c):
            return refused("NotNow")
        self.keep(("leave", c))
        self.done[c] += 1
        self.held[c], self.orders[c] = [], None
        return None

    def may_leave(self, c):
        return self.need(c) is not None and len(self.held[c]) == len(self.need(c))

    def may_take(self, c):
        return self.wanted(c) is not None and self.holder(self.wanted(c)) is None

    def busy(self, arrow):
        return [c for c in range(len(self.crews)) if self.held[c] and set(arrow) <= set(self.need(c))]

    def turn(self, arrow):
        ways = other_ways(self.home, self.lot, arrow)
        if ways:
            return refused("NotBare", way=ways[0])
        if self.busy(arrow):
            return refused("Busy", who=self.busy(arrow)[0])
        self.keep(("turn", *arrow))
        self.lot = slow.turned(self.lot, arrow)
        return None

    def go_on(self, c):
        """The one move of a crew that is busy, or of whom it waits for, and so forth."""
        if self.may_leave(c):
            self.leave(c)
        elif self.may_take(c):
            self.take(c)
        else:
            self.go_on(self.holder(self.wanted(c)))

    def change(self, standing):
        if slow.rings(self.home.many, slow.pairs_led(self.home, self.lot)):
            return refused("NoStanding")
        begun = len(self.log)
        while self.lot != standing:
            apart = set(self.lot) ^ set(standing)
            arrow = min(arrow for arrow in apart if not other_ways(self.home, self.lot, arrow))
            if self.busy(arrow):
                self.go_on(self.busy(arrow)[0])
            else:
                self.turn(arrow)
        return self.log[begun:]

    def lead(self, most):
        many = 0
        while many < most:
            leaving = [c for c in range(len(self.crews)) if self.may_leave(c)]
            taking = [c for c in range(len(self.crews)) if self.may_take(c)]
            if leaving:
                self.leave(leaving[0])
            elif taking:
                self.take(taking[0])
            else:
                break
            many += 1
        return many

    def back(self):
        if not self.log:
            return refused("NothingDone")
        self.log.pop()
        self.lot, self.done, self.held, self.orders = self.past.pop()
        return None

    def waits(self):
        numbers = range(len(self.crews))
        return tuple((c, d) for c in numbers for d in numbers
                     if self.wanted(c) is not None and self.wanted(c) in self.held[d])

    def stuck(self):
        waits, found = self.waits(), []
        for c in range(len(self.crews)):
            reached = {c}
            for _ in self.crews:
                reached |= {d for one, d in waits if one in reached}
            if any(on_a_ring(waits, d) for d in reached):
                found.append(c)
        return tuple(found)

    def state(self):
        """All that a yard tells of itself."""
        now = tuple((done, len(held)) for done, held in zip(self.done, self.held))
        holds = [tuple(held) for held in self.held]
        holders = [self.holder(thing) for thing in range(self.home.many)]
        return self.lot, now, holds, holders, self.waits(), self.stuck(), self.log


def on_a_ring(waits, c):
    """Whether waits lead from a crew back to itself."""
    reached = {d for one, d in waits if one == c}
    for _ in waits:
        reached |= {d for one, d in waits if one in reached}
    return c in reached


def yard_state(yard, home):
    """The same of a yard of the package."""
    now = yard.now()
    holds = [yard.holds(c) for c in range(len(now))]
    holders = [yard.holder(thing) for thing in range(home.many)]
    return yard.lot(), now, holds, holders, yard.waits(), yard.stuck(), yard.log()
