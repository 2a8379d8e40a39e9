"""How the masks lie: strays, their rings, and closed groups."""


def strays(hall):
    """The guests in a wrong mask, rising."""
    return [guest for guest in hall.guests() if hall.wears(guest) != guest]


def ring_with(hall, guest):
    """The guest's ring, from this guest on; of one who is no stray, this guest alone."""
    ring = [guest]
    mask = hall.wears(guest)
    while mask != guest:
        ring.append(mask)
        mask = hall.wears(mask)
    return ring


def rings_of(hall):
    """The rings, each from its least guest on, in the order of these."""
    placed = set()
    rings = []
    for guest in strays(hall):
        if guest not in placed:
            ring = ring_with(hall, guest)
            for other in ring:
                placed.add(other)
            rings.append(ring)
    return rings


def closed_around(hall, group):
    """The least closed group that has all of the group in it, rising."""
    held = set()
    for guest in group:
        if guest not in held:
            for other in ring_with(hall, guest):
                held.add(other)
    return sorted(held)


def fewest_plain(hall):
    """How many exchanges send all home if pairs might meet as often as they like."""
    return len(strays(hall)) - len(rings_of(hall))


def ring_home(ring):
    """The pairs that send a ring home: its first guest with each of the others."""
    # The first wears the mask of the second, hands it over and is then in the mask of
    # the third, and so on, until the last of them hands back the first one's own.
    return [(ring[0], other) for other in ring[1:]]


def plain_row(hall):
    """A row of as few pairs as fewest_plain tells, whoever has met."""
    row = []
    for ring in rings_of(hall):
        row.extend(ring_home(ring))
    return row
