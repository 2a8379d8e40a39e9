"""Going home: rows of pairs who never met, behind which there is no stray."""

from lastwaltz.errors import NoGuest, NotNew, NoWay, Same
from lastwaltz.rings import fewest_plain, ring_home, ring_with, rings_of, strays


def is_new(hall, guest):
    """True where the guest in the hall never met anybody, on no visit."""
    if not hall.inside(guest):
        raise NoGuest(guest)
    return hall.partners(guest) == []


def hub_of(hall, ring):
    """The first guest of the ring who has met none of the others of it, or None."""
    members = {guest: True for guest in ring}
    for guest in ring:
        if not any([partner in members for partner in hall.partners(guest)]):
            return guest
    return None


def loose_ring(hall, ring):
    """The ring turned so that its last guest has not met the first; None where it is stuck."""
    for at in range(len(ring)):
        if not hall.met(ring[at - 1], ring[at]):
            return ring[at:] + ring[:at]
    return None


def hubless_rings(hall):
    """The rings that have no hub."""
    return [ring for ring in rings_of(hall) if hub_of(hall, ring) is None]


def stuck_rings(hall):
    """The rings in which each guest has met the next one."""
    return [ring for ring in rings_of(hall) if loose_ring(hall, ring) is None]


def rings_by_hubs(hall, rings):
    """The pairs that send these rings home, each of them by a hub that it has."""
    row = []
    for ring in rings:
        row.extend(ring_home(ring_with(hall, hub_of(hall, ring))))
    return row


def rings_by_one(hall, rings, one):
    """The pairs by which one newcomer sends home these rings, of which none is stuck."""
    row = []
    for ring in rings:
        loose = loose_ring(hall, ring)
        row.extend([(one, guest) for guest in loose[:-1]])
        # Now the first wears the newcomer's mask, and has met the newcomer: the last,
        # who wears the first one's, brings it over.
        row.append((loose[-1], loose[0]))
        row.append((one, loose[-1]))
    return row


def rings_by_two(rings, one, other):
    """The pairs by which two newcomers send these rings home, whoever has met."""
    if not rings:
        return []
    # The one joins all rings into a single ring: from the one through the last ring to
    # its first guest, from there through the ring ahead of it, and so on, back to the one.
    row = [(one, ring[0]) for ring in rings]
    last = rings[-1]
    # The other steps in ahead of the first place at which the one could go on no more,
    # since the one has met the guest there.
    row.append((other, last[-1]))
    row.extend([(one, guest) for guest in last[1:]])
    row.append((other, last[0]))
    for ring in reversed(rings[:-1]):
        row.extend([(other, guest) for guest in ring[1:] + ring[:1]])
    row.append((one, other))
    return row


def hub_row(hall):
    """A row of n - r pairs, each of two guests of one ring."""
    if hubless_rings(hall):
        raise NoWay("a ring has no hub")
    return rings_by_hubs(hall, rings_of(hall))


def one_row(hall, one):
    """A row of n + r pairs with one newcomer."""
    if not is_new(hall, one):
        raise NotNew(f"{one} has met somebody")
    if stuck_rings(hall):
        raise NoWay("a ring is stuck")
    return rings_by_one(hall, rings_of(hall), one)


def check_two(hall, one, other):
    """Refuse two who are not two newcomers in the hall."""
    # Both are asked first: who is not in the hall is refused ahead of all else.
    new = [is_new(hall, guest) for guest in (one, other)]
    if one == other:
        raise Same(f"{one} is not two newcomers")
    if not all(new):
        raise NotNew(f"{one} or {other} has met somebody")


def two_many(hall):
    """How many pairs two newcomers need if one of them stands in each."""
    rings = rings_of(hall)
    if not rings:
        return 0
    return len(strays(hall)) + len(rings) + 2


def two_row(hall, one, other):
    """A row of as many pairs as two_many tells, one of the two newcomers in each."""
    check_two(hall, one, other)
    return rings_by_two(rings_of(hall), one, other)


def home_many(hall):
    """How many pairs the mixed row has."""
    # A ring without a hub takes two pairs more than one that has a hub.
    many = fewest_plain(hall) + 2 * len(hubless_rings(hall))
    if stuck_rings(hall):
        return many + 2
    return many


def home_row(hall, one, other):
    """The mixed row: rings that have a hub by their hubs, the others by newcomers."""
    check_two(hall, one, other)
    row = rings_by_hubs(hall, [ring for ring in rings_of(hall) if hub_of(hall, ring) is not None])
    hubless = hubless_rings(hall)
    if stuck_rings(hall):
        return row + rings_by_two(hubless, one, other)
    return row + rings_by_one(hall, hubless, one)
