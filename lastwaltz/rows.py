"""Rows on paper: pairs that exchange one behind the other, from own masks on."""

from lastwaltz.errors import Same


def worn_behind(row):
    """A dict of the masks that the guests of the row wear behind it."""
    worn = {}
    for one, other in row:
        mask = worn.get(one, one)
        worn[one] = worn.get(other, other)
        worn[other] = mask
    return worn


def moved_by(row):
    """The (guest, mask) of all who wear a wrong mask behind the row, by rising guests."""
    worn = worn_behind(row)
    return [(guest, worn[guest]) for guest in sorted(worn) if worn[guest] != guest]


def turned_row(row):
    """The row's pairs, each as it was told, from the last to the first."""
    return list(reversed(row))


def same_effect(row, other):
    """True where behind both rows each guest wears the same mask."""
    return moved_by(row) == moved_by(other)


def ring_from(worn, first):
    """The guests from the first on, each the owner of the mask that the one before wears."""
    ring = [first]
    mask = worn[first]
    while mask != first:
        ring.append(mask)
        mask = worn[mask]
    return ring


def shortest_row(row):
    """A row of the same effect that no row of that effect falls short of."""
    worn = worn_behind(row)
    placed = set()
    short = []
    for first in sorted(worn):
        if first not in placed:
            ring = ring_from(worn, first)
            for guest in ring:
                placed.add(guest)
            # Each exchange hands the first one's mask a place on, and leaves its giver
            # in the mask of the next: one pair fewer than guests makes the whole ring.
            short.extend(list(zip(ring, ring[1:])))
    return short


def all_unlike(row):
    """True where each pair is of two guests and no two guests make two of the pairs."""
    seen = set()
    for one, other in row:
        pair = (min(one, other), max(one, other))
        if one == other or pair in seen:
            return False
        seen.add(pair)
    return True


def quadrille(a, b, c, d):
    """Six pairs, each two of the four once, that leave all in the masks worn ahead."""
    if len(set([a, b, c, d])) < 4:
        raise Same("a quadrille is of four unlike guests")
    # Two pairs at a time, these are the three ways to part four guests into couples;
    # the third way undoes what the first two have done.
    return [(a, b), (c, d), (a, c), (b, d), (a, d), (b, c)]
