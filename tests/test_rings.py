"""Rings, points 2, 7, 8 and 9."""

import inspect
import itertools
import random
import unittest

from evenings import (
    TOP, Unchanged, drawn_halls, drawn_layout, hall_of, laid_out, masks_of, plain_rings, plain_strays, rings_in,
)
from lastwaltz import rings
from lastwaltz.errors import NoGuest
from lastwaltz.hall import Hall
from lastwaltz.rings import closed_around, fewest_plain, plain_row, ring_with, rings_of, strays


class RingsCase(Unchanged, unittest.TestCase):

    def plain_closed(self, worn, group):
        """The least closed group, by adding owners until none is missing."""
        group = set(group)
        while True:
            wider = group | {worn[guest] for guest in group}
            if wider == group:
                return sorted(group)
            group = wider


class TestInterface(unittest.TestCase):

    def test_names_and_arguments(self):
        for name, arguments in (
            ("strays", ["hall"]), ("rings_of", ["hall"]), ("ring_with", ["hall", "guest"]),
            ("closed_around", ["hall", "group"]), ("fewest_plain", ["hall"]), ("plain_row", ["hall"]),
        ):
            self.assertEqual(list(inspect.signature(getattr(rings, name)).parameters), arguments, name)


class TestByHand(RingsCase):

    def test_an_empty_hall(self):
        hall = Hall()
        self.assertEqual(self.told(strays, hall), [])
        self.assertEqual(self.told(rings_of, hall), [])
        self.assertEqual(self.told(closed_around, hall, []), [])
        self.assertEqual(self.told(fewest_plain, hall), 0)
        self.assertEqual(self.told(plain_row, hall), [])
        self.refused(NoGuest, 0, ring_with, hall, 0)
        self.refused(NoGuest, TOP, closed_around, hall, [TOP])

    def test_no_stray(self):
        hall = hall_of(5, 0, TOP)
        self.assertEqual(self.told(strays, hall), [])
        self.assertEqual(self.told(rings_of, hall), [])
        self.assertEqual(self.told(ring_with, hall, 5), [5])
        self.assertEqual(self.told(closed_around, hall, [TOP, 5]), [5, TOP])
        self.assertEqual(self.told(fewest_plain, hall), 0)
        self.assertEqual(self.told(plain_row, hall), [])

    def test_from_each_the_owner_of_the_mask_that_they_wear(self):
        hall = hall_of(1, 2, 3, 4)
        hall.exchange(2, 3)
        hall.exchange(3, 1)
        # 1 wears 2, 2 wears 3, 3 wears 1.
        self.assertEqual([hall.wears(guest) for guest in (1, 2, 3)], [2, 3, 1])
        self.assertEqual(self.told(rings_of, hall), [[1, 2, 3]])
        self.assertEqual(self.told(ring_with, hall, 2), [2, 3, 1])
        self.assertEqual(self.told(ring_with, hall, 4), [4])
        turned = hall_of(1, 2, 3)
        turned.exchange(1, 2)
        turned.exchange(3, 1)
        self.assertEqual(self.told(rings_of, turned), [[1, 3, 2]])

    def test_rings_in_the_order_of_their_least(self):
        hall = laid_out([8, 3, TOP, 0, 40, 7, 6], [], [[40, 6, 7], [TOP, 3], [8, 0]])
        self.assertEqual(self.told(rings_of, hall), [[0, 8], [3, TOP], [6, 7, 40]])
        self.assertEqual(self.told(strays, hall), [0, 3, 6, 7, 8, 40, TOP])
        self.assertEqual(self.told(fewest_plain, hall), 4)

    def test_closed_around(self):
        hall = laid_out([1, 2, 3, 4, 5, 6], [], [[1, 4, 2], [3, 6]])
        for group, closed in (
            ([], []), ([5], [5]), ([5, 5], [5]), ([4], [1, 2, 4]), ([6, 5], [3, 5, 6]),
            ([2, 2, 1], [1, 2, 4]), ([6, 1], [1, 2, 3, 4, 6]), ([6, 5, 4, 3, 2, 1], [1, 2, 3, 4, 5, 6]),
        ):
            self.assertEqual(self.told(closed_around, hall, group), closed)

    def test_refusals_tell_the_first_who_is_not_in_the_hall(self):
        hall = laid_out([1, 2, 3], [], [[1, 2]])
        self.refused(NoGuest, 9, ring_with, hall, 9)
        self.refused(NoGuest, 9, closed_around, hall, [9])
        self.refused(NoGuest, 9, closed_around, hall, [1, 2, 9, 7])
        self.refused(NoGuest, 7, closed_around, hall, [3, 7, 9, 7])
        hall.go(3)
        self.refused(NoGuest, 3, ring_with, hall, 3)
        self.refused(NoGuest, 3, closed_around, hall, [2, 3, 0])


class TestDrawnHalls(RingsCase):

    def halls(self):
        return drawn_halls() + [drawn_layout(seed) for seed in range(60)]

    def test_strays_and_rings(self):
        sizes = set()
        for hall in self.halls():
            sizes.add(len(hall.guests()))
            self.assertEqual(self.told(strays, hall), plain_strays(hall))
            self.assertEqual(self.told(rings_of, hall), plain_rings(hall))
            self.assertEqual(self.told(fewest_plain, hall), len(plain_strays(hall)) - len(plain_rings(hall)))
        self.assertEqual(sizes, set(range(41)))

    def test_ring_with_each_guest(self):
        for hall in self.halls():
            worn = masks_of(hall)
            for guest in worn:
                ring = ring_with(hall, guest)
                home = [ring for ring in plain_rings(hall) if guest in ring] or [[guest]]
                at = home[0].index(guest)
                self.assertEqual(ring, home[0][at:] + home[0][:at])
            gone = sorted({deed[1] for deed in hall.story()} - set(worn)) + [123456789012]
            self.refused(NoGuest, gone[0], ring_with, hall, gone[0])
            for guest in hall.guests()[:3]:
                self.told(ring_with, hall, guest)

    def test_closed_around_drawn_groups(self):
        chance = random.Random(7)
        for hall in self.halls():
            worn = masks_of(hall)
            guests = sorted(worn)
            for size in (0, 1, 2, 3, 10):
                group = [chance.choice(guests) for k in range(size)] if guests else []
                group += group[:1]
                self.assertEqual(self.told(closed_around, hall, group), self.plain_closed(worn, group))
                stranger = chance.randint(60, TOP - 2)
                if stranger not in worn:
                    at = chance.randint(0, len(group))
                    self.refused(
                        NoGuest, stranger, closed_around, hall, group[:at] + [stranger] + group[at:] + [stranger + 1])

    def test_plain_row(self):
        for hall in self.halls():
            row = self.row_told(plain_row, hall)
            worn = masks_of(hall)
            self.assertEqual(len(row), len(plain_strays(hall)) - len(plain_rings(hall)))
            for one, other in row:
                self.assertNotEqual(one, other)
                worn[one], worn[other] = worn[other], worn[one]
            self.assertEqual(rings_in(worn), [])

    def test_what_was_told_stays(self):
        hall = laid_out([1, 2, 3, 4, 5], [], [[1, 3, 2], [4, 5]])
        deeds = [("exchange", 1, 4), ("come", 9), ("exchange", 9, 3)]
        for ask, args in (
            (strays, ()), (rings_of, ()), (ring_with, (3,)), (closed_around, ([2, 5],)), (plain_row, ()),
        ):
            self.stays_told(ask, hall, deeds, *args)


class TestNoFewer(RingsCase):

    def test_no_shorter_row_and_none_of_odd_surplus(self):
        guests = (0, 4, 9, 30)
        pairs = list(itertools.combinations(range(4), 2))
        lengths = {}
        for many in range(6):
            for row in itertools.product(pairs, repeat=many):
                masks = list(guests)
                for one, other in reversed(row):
                    masks[one], masks[other] = masks[other], masks[one]
                lengths.setdefault(tuple(masks), set()).add(many)
        for masks in itertools.permutations(guests):
            worn = dict(zip(guests, masks))
            hall = laid_out(guests, [], rings_in(worn))
            self.assertEqual(masks_of(hall), worn)
            fewest = fewest_plain(hall)
            self.assertEqual(lengths[masks], {many for many in range(fewest, 6) if (many - fewest) % 2 == 0})


if __name__ == "__main__":
    unittest.main()
