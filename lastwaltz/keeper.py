"""The keeper: follows a plan that sends everybody home while others dance on."""

from lastwaltz.errors import NoPlan, NoWay
from lastwaltz.looker import hall_behind, sends_home


class Keeper:
    """The keeper of a hall, at first without a plan."""

    def __init__(self, hall):
        self.hall = hall
        self.plan = None
        # How many pairs of the plan were danced.
        self.danced = 0
        self.breaking = None

    def stand(self, row):
        """Take the row as the plan."""
        if not sends_home(self.hall, row):
            raise NoWay("the row doesn't send everybody home")
        self.plan = list(row)
        self.danced = 0
        self.breaking = None

    def state(self):
        """How it stands with the plan: none, standing, done or broken."""
        if self.plan is None:
            return "none"
        if self.breaking is not None:
            return "broken"
        if self.danced == len(self.plan):
            return "done"
        return "standing"

    def broken_at(self):
        """The moment behind the deed that broke the plan, or None."""
        return self.breaking

    def pairs_left(self):
        """The pairs of a standing plan that are not danced yet."""
        if self.state() != "standing":
            return []
        return self.plan[self.danced:]

    def left(self):
        """How many pairs are left."""
        return len(self.pairs_left())

    def due(self):
        """The pair that is due, as the row has it, or None."""
        if self.state() != "standing":
            return None
        return self.plan[self.danced]

    def step(self):
        """Do the due exchange and tell its pair."""
        pair = self.due()
        if pair is None:
            raise NoPlan("no exchange is due")
        self.exchange(pair[0], pair[1])
        return pair

    def come(self, guest):
        """The guest comes, which breaks no plan."""
        self.hall.come(guest)

    def go(self, guest):
        """The guest goes; a plan that needs them is broken."""
        self.hall.go(guest)
        if any([guest in pair for pair in self.pairs_left()]):
            self.breaking = self.hall.moment()

    def exchange(self, one, other):
        """The two exchange; that is the plan's step, or breaks a standing plan."""
        pair = self.due()
        self.hall.exchange(one, other)
        if pair in ((one, other), (other, one)):
            self.danced += 1
        elif pair is not None:
            self.breaking = self.hall.moment()

    def dance(self, row):
        """Do all exchanges of the row, or none."""
        # A row that can't be danced is refused here, while all is still as it was.
        hall_behind(self.hall, row)
        for one, other in row:
            self.exchange(one, other)
