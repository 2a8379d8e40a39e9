"""The morning after: exchanges of guests on speaking terms, as often as they like."""

from lastwaltz.errors import NoWay
from lastwaltz.rows import ring_from
from lastwaltz.ways import tree_from, way_between


def both_ways(terms):
    """A dict of the terms' pairs, each in either order."""
    known = {}
    for one, other in terms:
        known[(one, other)] = True
        known[(other, one)] = True
    return known


def talking_trees(hall, terms):
    """The guests in the hall as trees over terms: no two of unlike trees are on terms."""
    known = both_ways(terms)
    trees = []
    left = hall.guests()
    while left:
        tree = tree_from(left[0], left, lambda one, other: (one, other) in known)
        trees.append(tree)
        left = [guest for guest in left if guest not in tree]
    return trees


def is_barred(hall, tree):
    """True where a mask is worn in the tree whose owner stands outside it."""
    return any([hall.wears(guest) not in tree for guest in tree])


def tree_row(hall, tree):
    """The pairs that bring everybody in the tree into their own mask."""
    worn = {guest: hall.wears(guest) for guest in tree}
    row = []
    # The one who was reached last stands on no way between two others, so once home they
    # stay home; and a way among the k guests who are left takes at most k - 1 pairs.
    for guest in reversed(list(tree)):
        wearer = ring_from(worn, guest)[-1]
        way = way_between(tree, wearer, guest)
        for giver, taker in zip(way, way[1:]):
            mask = worn[giver]
            worn[giver] = worn[taker]
            worn[taker] = mask
            row.append((giver, taker))
    return row


def morning_row(hall, terms):
    """A row of pairs on terms that brings everybody into their own mask."""
    row = []
    for tree in talking_trees(hall, terms):
        if is_barred(hall, tree):
            raise NoWay("a mask's owner is out of its reach")
        row.extend(tree_row(hall, tree))
    return row


def barred_group(hall, terms):
    """The rising list of a group that a mask can't leave to come home, or None."""
    for tree in talking_trees(hall, terms):
        if is_barred(hall, tree):
            return sorted(tree)
    return None
