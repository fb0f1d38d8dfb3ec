"""A board: hands who turn arrows apart from one another, and are put together in ages."""

from turnedapart.errors import Clash, Closes, Full, NoArrow, NoHand, NothingDone, Tied
from turnedapart.homes import Home, check_thing, turned_home
from turnedapart.joints import least_joint
from turnedapart.pairs import is_arrow, is_thing, led_pairs, reaches, toggled, touched_lot
from turnedapart.turns import check_turn

_MOST_HANDS = 40


class Board:
    """Hands at one home, which each agreement makes anew."""

    def __init__(self, home):
        self._home = home
        self._standings = ()
        self._age = 0
        # What was done, each item with the home, the standings and the age ahead of it.
        self._past = []

    def _keep(self, item):
        """Put down what is done next."""
        self._past.append((item, self._home, self._standings, self._age))

    def _check_hand(self, h):
        """Raise NoHand for what is no number of a hand."""
        if not is_thing(len(self._standings), h):
            raise NoHand()

    def hand(self):
        """A new hand, at the home; its number."""
        if len(self._standings) == _MOST_HANDS:
            raise Full()
        self._keep(("hand",))
        self._standings = self._standings + ((),)
        return len(self._standings) - 1

    def turn(self, h, arrow):
        """Hand h turns an arrow alone, or back."""
        self._check_hand(h)
        standing = self._standings[h]
        check_turn(self._home, standing, arrow)
        self._keep(("turn", h) + arrow)
        self._standings = self._standings[:h] + (toggled(standing, arrow),) + self._standings[h + 1:]

    def standing(self, h):
        """The standing of hand h."""
        self._check_hand(h)
        return self._standings[h]

    def touched(self):
        """The lot of the arrows that stand in some of the standings."""
        return touched_lot(self._standings)

    def joint(self):
        """The one least joint standing, or None."""
        return least_joint(self._home, self.touched())

    def agree(self):
        """Make the joint standing the home of a new age, at which all hands stand."""
        standing = self.joint()
        if standing is None:
            raise Clash()
        self._keep(("agree",))
        self._home = turned_home(self._home, standing)
        self._standings = ((),) * len(self._standings)
        self._age += 1
        return standing

    def age(self):
        """How many agreements there were."""
        return self._age

    def home(self):
        """The Home of now."""
        return self._home

    def tie(self, u, v):
        """Tie two things from now on, u ahead of v, at the home and for all hands."""
        check_thing(self._home, u)
        check_thing(self._home, v)
        if u == v or (u, v) in self._home.arrows or (v, u) in self._home.arrows:
            raise Tied()
        closed = [who for who in range(-1, len(self._standings)) if self._leads(who, v, u)]
        if closed:
            raise Closes(closed[0])
        self._keep(("tie", u, v))
        self._home = Home(self._home.many, self._home.arrows + ((u, v),))

    def _leads(self, who, u, v):
        """Whether a way leads from u to v, as a hand, or the home for -1, has the arrows led."""
        standing = () if who == -1 else self._standings[who]
        return reaches(self._home.many, led_pairs(self._home, standing))[u] >> v & 1

    def untie(self, arrow):
        """Strike an arrow of the home, for all."""
        if not is_arrow(self._home, arrow):
            raise NoArrow()
        self._keep(("untie",) + arrow)
        self._home = Home(self._home.many, _without(self._home.arrows, arrow))
        self._standings = tuple([_without(standing, arrow) for standing in self._standings])

    def log(self):
        """The list of what was done and not taken back."""
        return [item for item, home, standings, age in self._past]

    def back(self):
        """Take back what was done last."""
        if not self._past:
            raise NothingDone()
        _, self._home, self._standings, self._age = self._past.pop()

    def copy(self):
        """A board where all stands as here, and which goes on apart from it."""
        other = Board(self._home)
        other._standings = self._standings
        other._age = self._age
        other._past = list(self._past)
        return other


def _without(lot, arrow):
    """The lot without an arrow."""
    return tuple([other for other in lot if other != arrow])
