"""What DOC.md says of yards and boards, kept as books of the tests' own, word by word, beside the package."""

from copy import deepcopy
from itertools import combinations, permutations
from random import Random

from tests import slow
from turnedapart.board import Board
from turnedapart.errors import TurnError
from turnedapart.homes import Home


def told(call, *values):
    """What a call returns, or the name and the fields of the error that it raises."""
    try:
        return call(*values)
    except TurnError as error:
        return refused(type(error).__name__, **vars(error))


def refused(name, **fields):
    return "refused", name, fields


def order_of(home, lot, need):
    """The order in which each of a need's things stands ahead of those that it is ahead of, or None."""
    pairs = slow.pairs_led(home, lot)
    for row in permutations(need):
        if all(pair in pairs for pair in combinations(row, 2)):
            return row
    return None


def needs_of(home, lot, most=5):
    """All needs that the lot orders."""
    every = [things for size in range(1, most + 1) for things in combinations(range(home.many), size)]
    return [need for need in every if order_of(home, lot, need)]


def other_ways(home, lot, arrow):
    """All ways between an arrow's things, as led, but its own pair, the least of the shortest first."""
    first, last = arrow[::-1] if arrow in lot else arrow
    every = slow.ways(home.many, slow.pairs_led(home, lot), first, last)
    return [way for way in every if way != (first, last)]


class YardBook:
    def __init__(self, home, lot, crews):
        self.home, self.lot, self.crews = home, lot, crews
        self.done = [0 for _ in crews]
        self.held = [[] for _ in crews]
        self.orders = [None for _ in crews]
        self.log, self.past = [], []

    def keep(self, item):
        self.past.append(deepcopy((self.lot, self.done, self.held, self.orders)))
        self.log.append(item)

    def need(self, c):
        return self.crews[c][self.done[c]] if self.done[c] < len(self.crews[c]) else None

    def order(self, c):
        return self.orders[c] if self.held[c] else order_of(self.home, self.lot, self.need(c))

    def wanted(self, c):
        """What a crew is to take next, or None."""
        if self.need(c) is None or len(self.held[c]) == len(self.need(c)):
            return None
        return self.order(c)[len(self.held[c])]

    def holder(self, thing):
        found = [c for c in range(len(self.crews)) if thing in self.held[c]]
        return found[0] if found else None

    def take(self, c):
        thing = self.wanted(c)
        if thing is None:
            return refused("NotNow")
        if self.holder(thing) is not None:
            return False
        order = self.order(c)
        self.keep(("take", c))
        self.orders[c] = order
        self.held[c].append(thing)
        return True

    def leave(self, c):
        if not self.may_leave(c):
            return refused("NotNow")
        self.keep(("leave", c))
        self.done[c] += 1
        self.held[c], self.orders[c] = [], None
        return None

    def may_leave(self, c):
        return self.need(c) is not None and len(self.held[c]) == len(self.need(c))

    def may_take(self, c):
        return self.wanted(c) is not None and self.holder(self.wanted(c)) is None

    def busy(self, arrow):
        return [c for c in range(len(self.crews)) if self.held[c] and set(arrow) <= set(self.need(c))]

    def turn(self, arrow):
        ways = other_ways(self.home, self.lot, arrow)
        if ways:
            return refused("NotBare", way=ways[0])
        if self.busy(arrow):
            return refused("Busy", who=self.busy(arrow)[0])
        self.keep(("turn", *arrow))
        self.lot = slow.turned(self.lot, arrow)
        return None

    def go_on(self, c):
        """The one move of a crew that is busy, or of whom it waits for, and so forth."""
        if self.may_leave(c):
            self.leave(c)
        elif self.may_take(c):
            self.take(c)
        else:
            self.go_on(self.holder(self.wanted(c)))

    def change(self, standing):
        if slow.rings(self.home.many, slow.pairs_led(self.home, self.lot)):
            return refused("NoStanding")
        begun = len(self.log)
        while self.lot != standing:
            apart = set(self.lot) ^ set(standing)
            arrow = min(arrow for arrow in apart if not other_ways(self.home, self.lot, arrow))
            if self.busy(arrow):
                self.go_on(self.busy(arrow)[0])
            else:
                self.turn(arrow)
        return self.log[begun:]

    def lead(self, most):
        many = 0
        while many < most:
            leaving = [c for c in range(len(self.crews)) if self.may_leave(c)]
            taking = [c for c in range(len(self.crews)) if self.may_take(c)]
            if leaving:
                self.leave(leaving[0])
            elif taking:
                self.take(taking[0])
            else:
                break
            many += 1
        return many

    def back(self):
        if not self.log:
            return refused("NothingDone")
        self.log.pop()
        self.lot, self.done, self.held, self.orders = self.past.pop()
        return None

    def waits(self):
        numbers = range(len(self.crews))
        return tuple((c, d) for c in numbers for d in numbers
                     if self.wanted(c) is not None and self.wanted(c) in self.held[d])

    def stuck(self):
        waits, found = self.waits(), []
        for c in range(len(self.crews)):
            reached = {c}
            for _ in self.crews:
                reached |= {d for one, d in waits if one in reached}
            if any(on_a_ring(waits, d) for d in reached):
                found.append(c)
        return tuple(found)

    def state(self):
        """All that a yard tells of itself."""
        now = tuple((done, len(held)) for done, held in zip(self.done, self.held))
        holds = [tuple(held) for held in self.held]
        holders = [self.holder(thing) for thing in range(self.home.many)]
        return self.lot, now, holds, holders, self.waits(), self.stuck(), self.log


def on_a_ring(waits, c):
    """Whether waits lead from a crew back to itself."""
    reached = {d for one, d in waits if one == c}
    for _ in waits:
        reached |= {d for one, d in waits if one in reached}
    return c in reached


def yard_state(yard, home):
    """The same of a yard of the package."""
    now = yard.now()
    holds = [yard.holds(c) for c in range(len(now))]
    holders = [yard.holder(thing) for thing in range(home.many)]
    return yard.lot(), now, holds, holders, yard.waits(), yard.stuck(), yard.log()


def all_runs(home, lot, crews):
    """All tuples of moves from the beginning to where no move can be made, each with whether crews are left."""
    orders = [[order_of(home, lot, need) for need in crew] for crew in crews]

    def run(moves, done, held):
        gone_on = False
        for c, rounds in enumerate(orders):
            if done[c] == len(rounds):
                continue
            need = rounds[done[c]]
            if held[c] == len(need):
                yield from run(moves + (("leave", c),), put(done, c, done[c] + 1), put(held, c, 0))
                gone_on = True
            elif not any(need[held[c]] in orders[d][done[d]][:held[d]] for d in range(len(crews)) if held[d]):
                yield from run(moves + (("take", c),), done, put(held, c, held[c] + 1))
                gone_on = True
        if not gone_on:
            yield moves, any(done[c] < len(rounds) for c, rounds in enumerate(orders))

    yield from run((), (0,) * len(crews), (0,) * len(crews))


def put(row, place, value):
    return row[:place] + (value,) + row[place + 1:]


def stuck_behind(home, lot, crews, moves):
    """The stuck crews behind some moves, or None where one of them can't be made."""
    book = YardBook(home, lot, crews)
    for move in moves:
        if not isinstance(move, tuple) or len(move) != 2 or move[0] not in ("take", "leave"):
            return None
        if type(move[1]) is not int or not 0 <= move[1] < len(crews):
            return None
        if getattr(book, move[0])(move[1]) not in (True, None):
            return None
    return book.stuck()


class BoardBook:
    """A board: the arrows of its home, and of each hand the set of those that it has turned."""

    def __init__(self, home):
        self.many, self.arrows = home.many, set(home.arrows)
        self.hands, self.ages = [], 0
        self.log, self.past = [], []

    def keep(self, item):
        self.past.append(deepcopy((self.arrows, self.hands, self.ages)))
        self.log.append(item)

    def home(self):
        return Home(self.many, tuple(self.arrows))

    def standings(self):
        return tuple(tuple(sorted(turned)) for turned in self.hands)

    def hand(self):
        if len(self.hands) == 40:
            return refused("Full")
        self.keep(("hand",))
        self.hands.append(set())
        return len(self.hands) - 1

    def turn(self, h, arrow):
        if not 0 <= h < len(self.hands):
            return refused("NoHand")
        if arrow not in self.arrows:
            return refused("NoArrow")
        ways = other_ways(self.home(), self.standings()[h], arrow)
        if ways:
            return refused("NotBare", way=ways[0])
        self.keep(("turn", h, *arrow))
        self.hands[h] ^= {arrow}
        return None

    def touched(self):
        return tuple(slow.touched(self.standings()))

    def joint(self):
        return slow.one_least(slow.joints(self.home(), self.standings()))

    def agree(self):
        standing = self.joint()
        if standing is None:
            return refused("Clash")
        self.keep(("agree",))
        self.arrows = set(slow.pairs_led(self.home(), standing))
        self.hands = [set() for _ in self.hands]
        self.ages += 1
        return standing

    def tie(self, u, v):
        if u == v or {(u, v), (v, u)} & self.arrows:
            return refused("Tied")
        for who, turned in enumerate([set()] + self.hands, start=-1):
            if slow.rings(self.many, set(slow.pairs_led(self.home(), turned)) | {(u, v)}):
                return refused("Closes", who=who)
        self.keep(("tie", u, v))
        self.arrows.add((u, v))
        return None

    def untie(self, arrow):
        if arrow not in self.arrows:
            return refused("NoArrow")
        self.keep(("untie", *arrow))
        self.arrows.remove(arrow)
        self.hands = [turned - {arrow} for turned in self.hands]
        return None

    def back(self):
        if not self.log:
            return refused("NothingDone")
        self.log.pop()
        self.arrows, self.hands, self.ages = self.past.pop()
        return None

    def state(self):
        """All that a board tells of itself."""
        home = self.home().many, self.home().arrows
        return home, self.standings(), self.touched(), self.joint(), self.ages, self.log


def board_state(board):
    """The same of a board of the package."""
    standings = []
    while told(board.standing, len(standings)) != refused("NoHand"):
        standings.append(board.standing(len(standings)))
    home = board.home().many, board.home().arrows
    return home, tuple(standings), board.touched(), board.joint(), board.age(), board.log()


def drawn_item(book, source):
    """The name and the values of something to be done at a board, often such that it can't be done."""
    name = source.choice(("hand", "turn", "turn", "turn", "turn", "turn", "agree", "tie", "tie", "untie"))
    if name == "turn":
        arrows = sorted(book.arrows) or [(0, 1)]
        return name, (source.randrange(len(book.hands) + 1), source.choice(arrows))
    if name == "tie":
        return name, (source.randrange(book.many), source.randrange(book.many))
    if name == "untie":
        u, v = source.choice(sorted(book.arrows) or [(0, 1)])
        return name, (source.choice(((u, v), (u, v), (v, u))),)
    return name, ()


def drawn_board(home, seed, items):
    """A board and a book of a home, at which the same things were done; so many that the seed gives were tried."""
    source, board, book = Random(seed), Board(home), BoardBook(home)
    for _ in range(items):
        name, values = drawn_item(book, source)
        told(getattr(board, name), *values)
        getattr(book, name)(*values)
    return board, book
