"""A yard: crews take the things of their needs as locks, while arrows are turned about them."""

from turnedapart.crews import (all_held, all_stuck, all_waits, beginning, behind, can_leave, check_crews, held_by,
                               moves_now, next_thing, orders_of)
from turnedapart.errors import Busy, NoCrew, NoNumber, NothingDone, NotNow
from turnedapart.homes import check_lot, check_standing, check_thing
from turnedapart.pairs import bare_arrows, differing, is_integer, is_thing, toggled
from turnedapart.turns import check_turn

_MOST_LED = 10000


class Yard:
    """Crews that do their rounds one behind another, by the arrows as they are led with the lot turned."""

    def __init__(self, home, lot, crews):
        check_lot(home, lot)
        check_crews(home, lot, crews)
        self._home = home
        self._lot = lot
        self._crews = crews
        self._orders = orders_of(home, lot, crews)
        self._now = beginning(crews)
        # What was done, each item with the lot and the tuple of now ahead of it.
        self._past = []

    def _check_crew(self, c):
        """Raise NoCrew for what is no number of a crew."""
        if not is_thing(len(self._crews), c):
            raise NoCrew()

    def take(self, c):
        """Crew c takes the next thing of its need: True, or False if another crew holds it."""
        self._check_crew(c)
        thing = next_thing(self._orders, self._now, c)
        if thing is None:
            raise NotNow()
        if thing in all_held(self._orders, self._now):
            return False
        self._do(("take", c))
        return True

    def leave(self, c):
        """Crew c lets all go that it holds, and its round is over."""
        self._check_crew(c)
        if not can_leave(self._orders, self._now, c):
            raise NotNow()
        self._do(("leave", c))

    def _do(self, item):
        """Make a move that can be made, or turn an arrow that can be turned."""
        self._past.append((item, self._lot, self._now))
        if item[0] == "turn":
            self._lead_by(toggled(self._lot, item[1:]))
        else:
            self._now = behind(self._now, item)

    def _lead_by(self, lot):
        """Go on by another lot; who holds something keeps its order, as no arrow within its need is turned."""
        self._lot = lot
        self._orders = orders_of(self._home, lot, self._crews)

    def now(self):
        """For each crew the pair of how many rounds it has done and how many things it holds."""
        return self._now

    def holds(self, c):
        """The tuple of the things that crew c holds, as they were taken."""
        self._check_crew(c)
        return held_by(self._orders, self._now, c)

    def holder(self, thing):
        """The crew that holds a thing, or None."""
        check_thing(self._home, thing)
        return all_held(self._orders, self._now).get(thing)

    def lot(self):
        """The lot of now."""
        return self._lot

    def waits(self):
        """The ascending tuple of the pairs (c, d): crew d holds what c is to take next."""
        return all_waits(self._orders, self._now)

    def stuck(self):
        """The ascending tuple of the crews from which waits lead into a ring of waits."""
        return all_stuck(self._orders, self._now)

    def lead(self, most):
        """Make the first move that can be made, leaving ones first, again and again; how many were made."""
        if not is_integer(most) or not 0 <= most <= _MOST_LED:
            raise NoNumber()
        many = 0
        moves = moves_now(self._orders, self._now)
        while moves and many < most:
            self._do(moves[0])
            many += 1
            moves = moves_now(self._orders, self._now)
        return many

    def turn(self, arrow):
        """Turn an arrow alone, or back."""
        check_turn(self._home, self._lot, arrow)
        busy = self._busy_with(arrow)
        if busy:
            raise Busy(busy[0])
        self._do(("turn",) + arrow)

    def _busy_with(self, arrow):
        """The ascending list of the crews that hold something of a need that has both things of an arrow."""
        u, v = arrow
        working = [crew for crew in range(len(self._now)) if held_by(self._orders, self._now, crew)]
        needs = {crew: self._orders[crew][self._now[crew][0]] for crew in working}
        return [crew for crew in working if u in needs[crew] and v in needs[crew]]

    def change(self, standing):
        """Turn to another standing, crews going on where they are busy; the list of all that was done."""
        check_standing(self._home, standing)
        check_standing(self._home, self._lot)
        begun = len(self._past)
        while self._lot != standing:
            free = bare_arrows(self._home, self._lot)
            arrow = min([arrow for arrow in differing(self._lot, standing) if arrow in free])
            busy = self._busy_with(arrow)
            self._do(self._going_on(busy[0]) if busy else ("turn",) + arrow)
        return self.log()[begun:]

    def _going_on(self, crew):
        """The move of a crew, or of the one that it waits for, and so forth."""
        waits = {waiting: other for waiting, other in self.waits()}
        here = crew
        # Under a standing no crew is stuck, so somebody waits for nobody.
        while here in waits:
            here = waits[here]
        word = "leave" if can_leave(self._orders, self._now, here) else "take"
        return word, here

    def log(self):
        """The list of the moves and turns that were done and not taken back."""
        return [item for item, lot, now in self._past]

    def back(self):
        """Take back what was done last."""
        if not self._past:
            raise NothingDone()
        _, lot, self._now = self._past.pop()
        self._lead_by(lot)

    def copy(self):
        """A yard where all stands as here, and which goes on apart from it."""
        other = Yard(self._home, self._lot, self._crews)
        other._now = self._now
        other._past = list(self._past)
        return other
