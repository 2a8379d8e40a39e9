"""What was: the hall at an earlier moment, and how masks and guests came by one another."""

from lastwaltz.errors import NoGuest, NoMoment
from lastwaltz.hall import Hall


def do_deed(hall, deed):
    """Do a deed of a story in the hall, or through its keeper."""
    if deed[0] == "come":
        hall.come(deed[1])
    elif deed[0] == "go":
        hall.go(deed[1])
    else:
        hall.exchange(deed[1], deed[2])


def hall_at(hall, moment):
    """A hall of its own in which the story's first so many deeds were done."""
    if moment < 0 or moment > hall.moment():
        raise NoMoment(f"there is no moment {moment}")
    then = Hall()
    for deed in hall.story()[:moment]:
        do_deed(then, deed)
    return then


def walk_since(hall, guest, ask):
    """What is asked, from the guest's last coming on: the moments at which it became another."""
    if not hall.inside(guest):
        raise NoGuest(guest)
    then = Hall()
    walk = []
    for moment, deed in enumerate(hall.story(), start=1):
        do_deed(then, deed)
        if deed == ("come", guest):
            # An earlier visit is forgotten.
            walk = []
        if then.inside(guest) and (walk == [] or walk[-1][1] != ask(then)):
            walk.append((moment, ask(then)))
    return walk


def mask_walk(hall, mask):
    """The (moment, guest) of all who wore the mask since its owner's last coming."""
    return walk_since(hall, mask, lambda then: then.wearer(mask))


def face_walk(hall, guest):
    """The (moment, mask) of all that the guest wore since their last coming."""
    return walk_since(hall, guest, lambda then: then.wears(guest))
