"""For the tests: halls after drawn evenings, halls laid out by hand, and plain readings of them.

Whatever is reckoned here is reckoned from the hall's story alone.
"""

import itertools
import random

from lastwaltz.errors import WaltzError
from lastwaltz.hall import Hall
from lastwaltz.homeway import home_row, hub_row, hubless_rings, one_row, stuck_rings, two_row

TOP = 999999999999


def move_masks(worn, deed):
    """Do a deed of a story on a dict of worn masks."""
    if deed[0] == "come":
        worn[deed[1]] = deed[1]
    elif deed[0] == "go":
        del worn[deed[1]]
    else:
        worn[deed[1]], worn[deed[2]] = worn[deed[2]], worn[deed[1]]


def masks_of(hall):
    """Who wears which mask, from the story."""
    worn = {}
    for deed in hall.story():
        move_masks(worn, deed)
    return worn


def met_of(hall):
    """The pairs that met, as frozensets, from the story."""
    return {frozenset(deed[1:]) for deed in hall.story() if deed[0] == "exchange"}


def plain_strays(hall):
    worn = masks_of(hall)
    return sorted(guest for guest in worn if worn[guest] != guest)


def rings_in(worn):
    """The rings of a dict of worn masks, each from its least guest on, in their order."""
    left = {guest for guest in worn if worn[guest] != guest}
    rings = []
    while left:
        ring = [min(left)]
        while worn[ring[-1]] != ring[0]:
            ring.append(worn[ring[-1]])
        rings.append(ring)
        left -= set(ring)
    return rings


def plain_rings(hall):
    return rings_in(masks_of(hall))


def has_hub(ring, met):
    return any(all(frozenset((one, other)) not in met for other in ring if other != one) for one in ring)


def is_stuck(ring, met):
    return all(frozenset((ring[at - 1], ring[at])) in met for at in range(len(ring)))


def seen(hall):
    """All that the hall tells of itself."""
    guests = hall.guests()
    known = sorted({guest for deed in hall.story() for guest in deed[1:]})
    return (
        guests, hall.pairs(), hall.story(), hall.moment(),
        [hall.wears(guest) for guest in guests],
        [hall.wearer(guest) for guest in guests],
        [hall.inside(guest) for guest in known],
        [hall.partners(guest) for guest in known],
        [hall.met(one, other) for one in guests for other in guests],
    )


def hall_of(*guests):
    hall = Hall()
    for guest in guests:
        hall.come(guest)
    return hall


def unused(hall, start=0):
    """Numbers from the start on that never were in the hall."""
    known = {guest for deed in hall.story() for guest in deed[1:]}
    for number in itertools.count(start):
        if number not in known:
            yield number


def lay_masks(hall, wished, helpers):
    """Bring the masks where they are wished; for each ring of them two helpers come and go."""
    owner = {mask: guest for guest, mask in wished.items()}
    worn = {guest: owner[mask] for guest, mask in masks_of(hall).items()}
    for ring in rings_in(worn):
        x, y = next(helpers), next(helpers)
        hall.come(x)
        hall.come(y)
        row = [(x, ring[0]), (y, ring[-1])] + [(x, guest) for guest in ring[1:]] + [(y, ring[0]), (x, y)]
        for one, other in row:
            hall.exchange(one, other)
        hall.go(x)
        hall.go(y)


def laid_out(guests, met, rings):
    """A hall of these guests of whom just these pairs have met, with the masks in these rings.

    Others helped to bring that about and went.
    """
    hall = hall_of(*guests)
    for one, other in met:
        hall.exchange(one, other)
    wished = {guest: guest for guest in guests}
    for ring in rings:
        for at in range(len(ring)):
            wished[ring[at - 1]] = ring[at]
    lay_masks(hall, wished, unused(hall, 500000))
    return hall


def drawn_numbers(chance, many):
    """Unlike numbers with holes between, from both ends of what a guest may be."""
    numbers = {0, 1, 2, TOP, TOP - 1}
    while len(numbers) < many + 8:
        numbers.add(chance.choice((chance.randint(0, 60), chance.randint(0, TOP))))
    numbers = sorted(numbers)
    chance.shuffle(numbers)
    return numbers


def try_deed(hall, deed):
    """Do the deed, or leave it where the hall refuses."""
    try:
        getattr(hall, deed[0])(*deed[1:])
    except WaltzError:
        pass


def drawn_hall(seed, many):
    """A hall of so many guests after a long drawn evening."""
    chance = random.Random(seed)
    numbers = drawn_numbers(chance, many)
    hall = Hall()
    for part in range(2):
        for step in range(chance.choice((many, 3 * many, 20 * many))):
            word = chance.choice(("come", "come", "go", "exchange", "exchange", "exchange", "exchange"))
            if word != "come" or len(hall.guests()) < many:
                guests = tuple(chance.choice(numbers) for k in range(2 if word == "exchange" else 1))
                try_deed(hall, (word,) + guests)
        if part == 0 and chance.random() < 0.5:
            # All go home; some of them come again, and have met from the earlier visit.
            lay_masks(hall, {guest: guest for guest in hall.guests()}, unused(hall, 5000000))
            for guest in hall.guests():
                if chance.random() < 0.6:
                    hall.go(guest)
    for guest in numbers:
        if len(hall.guests()) < many:
            try_deed(hall, ("come", guest))
    return hall


def drawn_halls(rounds=2):
    """Halls of 0 to 40 guests."""
    return [drawn_hall(1000 * again + many, many) for again in range(rounds) for many in range(41)]


def drawn_layout(seed):
    """A hall of few or some guests with drawn rings and drawn meetings, dense or thin."""
    chance = random.Random(seed)
    many = chance.randint(0, 12)
    guests = drawn_numbers(chance, many)[:many]
    density = chance.choice((0, 0.1, 0.3, 0.6, 0.9, 1))
    met = [pair for pair in itertools.combinations(guests, 2) if chance.random() < density]
    chance.shuffle(met)
    rings, at = [], 0
    while many - at >= 2:
        size = chance.randint(1, min(6, many - at))
        if size > 1:
            rings.append(guests[at:at + size])
        at += size
    return laid_out(guests, met, rings)


def with_newcomers(hall, *numbers):
    """A twin of the hall into which these come."""
    twin = hall.twin()
    for number in numbers:
        twin.come(number)
    return twin


def judged(ask, *args):
    """What is told, or the refusal's class and the guest that it tells."""
    try:
        return ask(*args)
    except WaltzError as refusal:
        return (type(refusal), getattr(refusal, "guest", None))


def strangers(hall, many):
    """So many numbers that never were in the hall."""
    return list(itertools.islice(unused(hall, 70), many))


def gone_from(hall):
    """Those who were in the hall once and are not now, rising."""
    return sorted({deed[1] for deed in hall.story()} - set(hall.guests()))


def free_pairs(hall):
    """The pairs of guests in the hall who never met, the lesser first."""
    met = met_of(hall)
    return [pair for pair in itertools.combinations(hall.guests(), 2) if frozenset(pair) not in met]


def met_inside(hall):
    """The pairs of guests in the hall who met, the lesser first."""
    met = met_of(hall)
    return [pair for pair in itertools.combinations(hall.guests(), 2) if frozenset(pair) in met]


def either_way(chance, pair):
    return chance.choice((pair, pair[::-1]))


def plain_trouble(hall, row):
    """The first pair that could not be danced, reckoned from the story."""
    worn, met = masks_of(hall), met_of(hall)
    for place, pair in enumerate(row):
        if not set(pair) <= set(worn):
            return (place, "nobody")
        if len(set(pair)) == 1:
            return (place, "same")
        if frozenset(pair) in met:
            return (place, "met")
        met.add(frozenset(pair))
    return None


def plain_sends_home(hall, row):
    """Whether the row sends everybody home, reckoned from the story."""
    if plain_trouble(hall, row) is not None:
        return False
    worn = masks_of(hall)
    for one, other in row:
        worn[one], worn[other] = worn[other], worn[one]
    return all(worn[guest] == guest for guest in worn)


def ways_home(hall, one, other):
    """Rows that send everybody home from a hall in which these two are newcomers."""
    rows = [two_row(hall, one, other), home_row(hall, one, other)]
    if not stuck_rings(hall):
        rows.append(one_row(hall, one))
    if not hubless_rings(hall):
        rows.append(hub_row(hall))
    return rows


def plan_reckoned(plan, since, story):
    """What became of a plan that was taken at that moment: its state, the pairs left, the moment of its breaking."""
    if plan is None:
        return ("none", [], None)
    left = list(plan)
    for moment, deed in enumerate(story[since:], since + 1):
        if left and deed[0] == "exchange" and set(deed[1:]) == set(left[0]):
            left.pop(0)
        elif left and (deed[0] == "exchange" or deed[0] == "go" and any(deed[1] in pair for pair in left)):
            return ("broken", [], moment)
    return ("standing" if left else "done", left, None)


class Unchanged:
    """For test cases: questions that leave the hall, and all that is handed in, as they were."""

    def told(self, ask, hall, *args):
        """What is told; asked twice, it is told twice, and the asker's list is their own."""
        before = seen(hall)
        handed = [list(arg) if isinstance(arg, list) else arg for arg in args]
        answer = ask(hall, *args)
        kept = copied(answer)
        if isinstance(answer, list):
            spoil(answer)
        self.assertEqual(ask(hall, *args), kept)
        self.assertEqual(seen(hall), before)
        self.assertEqual(list(args), handed)
        return kept

    def refused(self, kind, guest, ask, hall, *args):
        """The question is refused just so, twice over, and nothing is changed."""
        before = seen(hall)
        handed = [list(arg) if isinstance(arg, list) else arg for arg in args]
        for attempt in range(2):
            with self.assertRaises(WaltzError) as caught:
                ask(hall, *args)
            self.assertIs(type(caught.exception), kind)
            self.assertEqual(getattr(caught.exception, "guest", None), guest)
        self.assertEqual(seen(hall), before)
        self.assertEqual(list(args), handed)

    def row_told(self, ask, hall, *args):
        """A row that is told, of tuples of two whole numbers."""
        row = self.told(ask, hall, *args)
        self.assertIs(type(row), list)
        for pair in row:
            self.assertIs(type(pair), tuple)
            self.assertEqual([type(guest) for guest in pair], [int, int])
        return row

    def stays_told(self, ask, hall, deeds, *args):
        """No later deed changes what was told."""
        hall = hall.twin()
        answer = ask(hall, *args)
        kept = copied(answer)
        for deed in deeds:
            getattr(hall, deed[0])(*deed[1:])
        self.assertEqual(answer, kept)

    def sends_home(self, hall, row):
        """The row can be danced in a twin of the hall pair by pair, and then everybody can go."""
        twin = hall.twin()
        met = met_of(hall)
        for pair in row:
            self.assertEqual(len(set(pair)), 2)
            self.assertNotIn(frozenset(pair), met)
            met.add(frozenset(pair))
            self.assertIsNone(twin.exchange(*pair))
        self.assertEqual(plain_strays(twin), [])
        for guest in twin.guests():
            self.assertIsNone(twin.go(guest))
        self.assertEqual(twin.guests(), [])


def copied(answer):
    if isinstance(answer, list):
        return [copied(one) for one in answer]
    return answer


def spoil(answer):
    """Change a told list, and the lists in it, as an asker might."""
    for one in answer:
        if isinstance(one, list):
            one.reverse()
            one.append("else")
    answer.reverse()
    answer.append("else")
    del answer[:2]
