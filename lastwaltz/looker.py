"""Looking a row through ahead of it, and dancing it, all or nothing."""

from lastwaltz.errors import Met, NoGuest, Same
from lastwaltz.rings import strays


def trouble(hall, row):
    """The place and the word of the first pair that could not be danced, or None."""
    # The row is tried in a twin: so it is the hall itself that judges each pair, with
    # all that was danced ahead of it.
    twin = hall.twin()
    for place, (one, other) in enumerate(row):
        try:
            twin.exchange(one, other)
        except NoGuest:
            return (place, "nobody")
        except Same:
            return (place, "same")
        except Met:
            return (place, "met")
    return None


def hall_behind(hall, row):
    """A twin of the hall in which the row was danced; refuses as the hall would."""
    twin = hall.twin()
    for one, other in row:
        twin.exchange(one, other)
    return twin


def dance(hall, row):
    """Do all exchanges of the row, or none."""
    # A row that can't be danced is refused here, while the hall is still as it was.
    hall_behind(hall, row)
    for one, other in row:
        hall.exchange(one, other)


def sends_home(hall, row):
    """True where the row can be danced in the hall and leaves no stray."""
    try:
        behind = hall_behind(hall, row)
    except (NoGuest, Same, Met):
        return False
    return strays(behind) == []
