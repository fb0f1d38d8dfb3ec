"""All errors of the package; each of them but TurnError stands directly under TurnError."""


class TurnError(ValueError):
    """What all errors of the package are; one with a field shows its value as its message."""


class NoLot(TurnError):
    """A thing is no lot of the home."""


class NoStanding(TurnError):
    """A thing is no standing of the home."""


class NoThing(TurnError):
    """A value is no thing of the home."""


class NoThings(TurnError):
    """A value is no ascending tuple of things of the home, or is all of them."""


class NoOrder(TurnError):
    """A value is no tuple of all things of the home."""


class NoArrow(TurnError):
    """A value is no arrow of the home."""


class NoHands(TurnError):
    """A value is no tuple of hands of the home."""


class NoNumber(TurnError):
    """A value is no number of those that are asked for."""


class NoTies(TurnError):
    """A value is no ascending tuple of ascending pairs of things."""


class NotSpined(TurnError):
    """The home is not spined."""


class NoSeen(TurnError):
    """A value is no tuple of seen ties of the home."""


class NoFit(TurnError):
    """No standing fits the seen ties."""


class NothingDone(TurnError):
    """There is nothing to take back."""


class NoCrew(TurnError):
    """A value is no number of a crew of the yard."""


class NotNow(TurnError):
    """The crew can't do this now."""


class NoHand(TurnError):
    """A value is no number of a hand of the board."""


class Full(TurnError):
    """The board has all the hands that it can have."""


class Clash(TurnError):
    """What the hands turned has no one least joint standing."""


class Tied(TurnError):
    """Two things are tied already, or are one."""


class NoText(TurnError):
    """A value is no string."""


class BadHome(TurnError):
    """No home can be made; `part` tells why: "many", "arrows" or "ring"."""

    def __init__(self, part):
        self.part = part


class NotBare(TurnError):
    """An arrow can't be turned alone; `way` is another way between its things."""

    def __init__(self, way):
        self.way = way


class BadCrews(TurnError):
    """The crews are wrong; `index` tells the first wrong one, -1 all of them."""

    def __init__(self, index):
        self.index = index


class Busy(TurnError):
    """The crew `who` is busy with both things of an arrow."""

    def __init__(self, who):
        self.who = who


class Closes(TurnError):
    """A tie would make a ring for the hand `who`, for the home if it is -1."""

    def __init__(self, who):
        self.who = who


class TooMany(TurnError):
    """There are more than the `most` that are gone through."""

    def __init__(self, most):
        self.most = most
