"""The hall: who is in it, who wears which mask, who has met, and the story of it all."""

from lastwaltz.errors import AlreadyIn, Masked, Met, NoGuest, Same


class Hall:
    """A hall, empty at moment 0."""

    def __init__(self):
        self.worn = {}
        # The masks' side of the same thing, so that a wearer is found without a search.
        self.holders = {}
        # Whom each guest ever met: it outlasts their going.
        self.circles = {}
        self.deeds = []

    def come(self, guest):
        """The guest comes in their own mask."""
        if guest in self.worn:
            raise AlreadyIn(f"{guest} is in the hall already")
        self.dress(guest, guest)
        self.deeds.append(("come", guest))

    def go(self, guest):
        """The guest goes in their own mask."""
        if self.wears(guest) != guest:
            raise Masked(f"{guest} wears the mask of {self.wears(guest)}")
        self.worn.pop(guest)
        self.holders.pop(guest)
        self.deeds.append(("go", guest))

    def exchange(self, one, other):
        """The two exchange the masks that they wear."""
        mask = self.wears(one)
        other_mask = self.wears(other)
        if one == other:
            raise Same(f"{one} can't exchange alone")
        if self.met(one, other):
            raise Met(f"{one} and {other} have met")
        self.dress(one, other_mask)
        self.dress(other, mask)
        self.acquaint(one, other)
        self.acquaint(other, one)
        self.deeds.append(("exchange", one, other))

    def dress(self, guest, mask):
        """Put the mask on the guest, on both sides of the books."""
        self.worn[guest] = mask
        self.holders[mask] = guest

    def acquaint(self, one, other):
        """Write the other one into the one's circle."""
        circle = self.circles.setdefault(one, {})
        circle[other] = True

    def inside(self, guest):
        """True where the guest is in the hall."""
        return guest in self.worn

    def guests(self):
        """The list of those in the hall, rising."""
        return sorted(self.worn)

    def wears(self, guest):
        """The mask that the guest wears."""
        if guest not in self.worn:
            raise NoGuest(guest)
        return self.worn[guest]

    def wearer(self, mask):
        """The guest who wears the mask."""
        if mask not in self.holders:
            raise NoGuest(mask)
        return self.holders[mask]

    def met(self, one, other):
        """True where the two have exchanged, on any visit."""
        return other in self.circles.get(one, {})

    def partners(self, guest):
        """The rising list of all whom the guest ever met."""
        return sorted(self.circles.get(guest, {}))

    def pairs(self):
        """All pairs that met, the lesser guest first in each, rising."""
        return [(one, other) for one in sorted(self.circles) for other in self.partners(one) if one < other]

    def story(self):
        """The list of the deeds that were done, in order."""
        return list(self.deeds)

    def moment(self):
        """How many deeds were done."""
        return len(self.deeds)

    def twin(self):
        """A hall that is alike in all that can be asked; each goes on without the other."""
        hall = Hall()
        hall.worn = dict(self.worn)
        hall.holders = dict(self.holders)
        hall.circles = {guest: dict(circle) for guest, circle in self.circles.items()}
        hall.deeds = list(self.deeds)
        return hall
