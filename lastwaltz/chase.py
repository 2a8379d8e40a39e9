"""Chasing a mask: from wearer to wearer, over pairs who never met."""

from lastwaltz.errors import NoGuest, NoWay
from lastwaltz.ways import tree_from, way_up


def free_tree(hall, first):
    """The tree of ways from the first to others in the hall, over pairs who never met."""
    return tree_from(first, hall.guests(), lambda one, other: not hall.met(one, other))


def wearer_for(hall, mask, guest):
    """The mask's wearer; refuses a mask, then a guest, that is not in the hall."""
    wearer = hall.wearer(mask)
    if not hall.inside(guest):
        raise NoGuest(guest)
    return wearer


def chase_row(hall, mask, guest):
    """A shortest row behind which the guest wears the mask."""
    wearer = wearer_for(hall, mask, guest)
    tree = free_tree(hall, guest)
    if wearer not in tree:
        raise NoWay(f"the mask of {mask} can't come to {guest}")
    way = way_up(tree, wearer)
    return list(zip(way, way[1:]))


def shut_group(hall, mask, guest):
    """The rising list of a group from which the mask can't come to the guest, or None."""
    tree = free_tree(hall, wearer_for(hall, mask, guest))
    if guest in tree:
        return None
    return sorted(tree)
