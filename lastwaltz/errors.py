"""The refusals. Each is a class of its own straight under WaltzError."""


class WaltzError(ValueError):
    """Any refusal."""


class AlreadyIn(WaltzError):
    """A guest who is in the hall can't come."""


class Masked(WaltzError):
    """A guest goes only in their own mask."""


class Same(WaltzError):
    """Guests who must be unlike are not."""


class Met(WaltzError):
    """The two have exchanged with one another already."""


class NotNew(WaltzError):
    """The guest has met somebody and so is no newcomer."""


class NoWay(WaltzError):
    """There is no such row, or the row doesn't send everybody home."""


class NoPlan(WaltzError):
    """No exchange is due."""


class NoMoment(WaltzError):
    """The story has no such moment."""


class BadName(WaltzError):
    """The word can't be a figure's name."""


class Taken(WaltzError):
    """The name is given already."""


class Unknown(WaltzError):
    """The book of figures doesn't have the name."""


class TooLong(WaltzError):
    """The figure has too many pairs."""


class NoFigure(WaltzError):
    """The text is no written figure."""


class NoGuest(WaltzError):
    """A number is not in the hall; the field guest tells which."""

    def __init__(self, guest):
        WaltzError.__init__(self, f"{guest} is not in the hall")
        self.guest = guest


class NoText(WaltzError):
    """A line is not written as it must be; the field place tells which, from 1."""

    def __init__(self, place):
        WaltzError.__init__(self, f"line {place} is not written as a deed")
        self.place = place
