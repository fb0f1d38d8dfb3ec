"""A hand: somebody who begins at a home and turns arrows, one at a time."""

from turnedapart.errors import NothingDone
from turnedapart.pairs import toggled
from turnedapart.turns import check_turn, steps


class Hand:
    """Somebody who begins at the home, with nothing turned."""

    def __init__(self, home):
        self._home = home
        self._standing = ()
        self._log = []

    def turn(self, arrow):
        """Turn an arrow alone, or back."""
        check_turn(self._home, self._standing, arrow)
        self._standing = toggled(self._standing, arrow)
        self._log.append(arrow)

    def go_to(self, standing):
        """Turn the arrows of the row of steps to a standing, one behind another."""
        row = steps(self._home, self._standing, standing)
        self._standing = standing
        self._log.extend(row)

    def back(self):
        """Take the last turn back."""
        if not self._log:
            raise NothingDone()
        self._standing = toggled(self._standing, self._log.pop())

    def standing(self):
        """The standing of now."""
        return self._standing

    def log(self):
        """The list of the arrows that were turned and not taken back."""
        return list(self._log)

    def copy(self):
        """A hand that stands where this one does, and goes on apart from it."""
        other = Hand(self._home)
        other._standing = self._standing
        other._log = list(self._log)
        return other
