"""Chasing a mask, point 15."""

import inspect
import itertools
import random
import unittest

from evenings import (
    TOP, Unchanged, drawn_halls, drawn_layout, drawn_numbers, hall_of, laid_out, masks_of, met_of, rings_in,
    unused,
)
from lastwaltz import chase
from lastwaltz.chase import chase_row, shut_group
from lastwaltz.errors import NoGuest, NoWay
from lastwaltz.hall import Hall


def searched(hall, mask, guest):
    """The least length of all rows behind which the guest wears the mask, or None: all rows are tried."""
    guests = hall.guests()
    met = met_of(hall)
    free = [pair for pair in itertools.combinations(guests, 2) if frozenset(pair) not in met]
    worn = masks_of(hall)
    states = {(tuple(worn[one] for one in guests), 0)}
    place = guests.index(guest)
    many = 0
    while states:
        if any(masks[place] == mask for masks, used in states):
            return many
        states = {
            (swapped(masks, guests.index(one), guests.index(other)), used | 1 << at)
            for masks, used in states for at, (one, other) in enumerate(free) if not used >> at & 1
        }
        many += 1
    return None


def swapped(masks, one, other):
    masks = list(masks)
    masks[one], masks[other] = masks[other], masks[one]
    return tuple(masks)


def distance(hall, first, last):
    """How many steps lie between the two over pairs that never met, or None, ring by ring outwards."""
    met = met_of(hall)
    reached, many = {first}, 0
    while last not in reached:
        wider = reached | {
            guest for guest in hall.guests() if any(frozenset((guest, one)) not in met for one in reached)
        }
        if wider == reached:
            return None
        reached, many = wider, many + 1
    return many


def drawn_rings(chance, guests):
    masks = list(guests)
    chance.shuffle(masks)
    return rings_in(dict(zip(guests, masks)))


def all_but(guests, free):
    """All pairs of the guests but these."""
    free = {frozenset(pair) for pair in free}
    return [pair for pair in itertools.combinations(guests, 2) if frozenset(pair) not in free]


class ChaseCase(Unchanged, unittest.TestCase):

    def check_chase(self, hall, mask, guest, many):
        """Just one of the two is told, a chase of so many pairs or a shut group."""
        if many is None:
            self.refused(NoWay, None, chase_row, hall, mask, guest)
            self.check_group(hall, mask, guest)
            return
        self.assertIsNone(self.told(shut_group, hall, mask, guest))
        row = self.row_told(chase_row, hall, mask, guest)
        self.assertEqual(len(row), many)
        twin = hall.twin()
        for pair in row:
            self.assertIn(twin.wearer(mask), pair)
            self.assertIsNone(twin.exchange(*pair))
        self.assertEqual(masks_of(twin)[guest], mask)

    def check_group(self, hall, mask, guest):
        group = self.told(shut_group, hall, mask, guest)
        self.assertIs(type(group), list)
        self.assertEqual(group, sorted(set(group)))
        self.assertLessEqual(set(group), set(hall.guests()))
        worn = masks_of(hall)
        self.assertTrue(any(worn[one] == mask for one in group))
        self.assertNotIn(guest, group)
        met = met_of(hall)
        for one in group:
            for other in hall.guests():
                self.assertTrue(other in group or frozenset((one, other)) in met)

    def check_against_search(self, hall):
        for mask in hall.guests():
            for guest in hall.guests():
                self.check_chase(hall, mask, guest, searched(hall, mask, guest))

    def wearer_of(self, hall, mask):
        return [guest for guest, worn in masks_of(hall).items() if worn == mask][0]


class TestInterface(unittest.TestCase):

    def test_names_and_arguments(self):
        for name in ("chase_row", "shut_group"):
            self.assertEqual(list(inspect.signature(getattr(chase, name)).parameters), ["hall", "mask", "guest"])


class TestByHand(ChaseCase):

    def test_who_wears_it_already(self):
        hall = hall_of(1, 2, TOP)
        hall.exchange(1, 2)
        for mask, guest in ((1, 2), (2, 1), (TOP, TOP)):
            self.assertEqual(self.told(chase_row, hall, mask, guest), [])
            self.assertIsNone(self.told(shut_group, hall, mask, guest))

    def test_a_single_guest(self):
        hall = hall_of(0)
        self.assertEqual(self.told(chase_row, hall, 0, 0), [])
        self.assertIsNone(self.told(shut_group, hall, 0, 0))

    def test_straight_to_one_who_never_met_the_wearer(self):
        hall = hall_of(1, 2, 3)
        hall.exchange(1, 2)
        row = self.row_told(chase_row, hall, 1, 3)
        self.assertEqual([set(pair) for pair in row], [{2, 3}])

    def test_over_a_third(self):
        hall = hall_of(1, 2, 3)
        hall.exchange(1, 2)
        row = self.row_told(chase_row, hall, 1, 1)
        self.assertEqual([set(pair) for pair in row], [{2, 3}, {3, 1}])

    def test_two_who_met_are_shut_from_one_another(self):
        hall = hall_of(1, 2)
        hall.exchange(1, 2)
        self.refused(NoWay, None, chase_row, hall, 1, 1)
        self.assertEqual(self.told(shut_group, hall, 1, 1), [2])
        self.assertEqual(self.told(shut_group, hall, 2, 2), [1])

    def test_those_outside_the_hall_are_no_way(self):
        hall = hall_of(1, 2, 3)
        hall.exchange(1, 2)
        hall.go(3)
        self.refused(NoWay, None, chase_row, hall, 1, 1)
        hall.come(3)
        self.assertEqual(len(self.row_told(chase_row, hall, 1, 1)), 2)

    def test_refusals_in_their_order(self):
        hall = hall_of(1, 2)
        hall.exchange(1, 2)
        for ask in (chase_row, shut_group):
            self.refused(NoGuest, 8, ask, hall, 8, 9)
            self.refused(NoGuest, 9, ask, hall, 9, 8)
            self.refused(NoGuest, 8, ask, hall, 8, 8)
            self.refused(NoGuest, 8, ask, hall, 8, 1)
            self.refused(NoGuest, 8, ask, hall, 1, 8)
            self.refused(NoGuest, 0, ask, Hall(), 0, 1)
        gone = hall_of(1, 2, 3)
        gone.go(3)
        for ask in (chase_row, shut_group):
            self.refused(NoGuest, 3, ask, gone, 3, 1)
            self.refused(NoGuest, 3, ask, gone, 1, 3)

    def test_a_long_way(self):
        guests = [30, 4, 17, 0, TOP, 8, 25, 1, 100, 60, 2, 9]
        for rings in ([], [guests], [guests[:5], guests[7:]]):
            hall = laid_out(guests, all_but(guests, zip(guests, guests[1:])), rings)
            for mask in guests:
                at = guests.index(self.wearer_of(hall, mask))
                for guest in guests:
                    self.check_chase(hall, mask, guest, abs(at - guests.index(guest)))

    def test_two_groups(self):
        here, there = [5, 1, 9, 30], [0, 2, TOP]
        hall = laid_out(here + there, list(itertools.product(here, there)), [[5, 0, 1], [9, TOP]])
        for mask in here + there:
            wearer = self.wearer_of(hall, mask)
            for guest in here + there:
                shut = (wearer in here) != (guest in here)
                self.check_chase(hall, mask, guest, None if shut else int(wearer != guest))
                if shut:
                    self.assertEqual(shut_group(hall, mask, guest), sorted(here if wearer in here else there))

    def test_many_guests(self):
        hall = hall_of(*range(3000))
        for guest in range(1, 2000):
            hall.exchange(0, guest)
        self.assertEqual(len(chase_row(hall, hall.wears(0), 5)), 2)
        self.assertIsNone(shut_group(hall, hall.wears(0), 5))

    def test_what_was_told_stays(self):
        hall = laid_out([1, 2, 3, 4], all_but([1, 2, 3, 4], [(1, 2), (2, 3)]), [[1, 4]])
        deeds = [("exchange", 1, 2), ("come", 7), ("exchange", 4, 7)]
        self.stays_told(chase_row, hall, deeds, 4, 3)
        self.stays_told(shut_group, hall, deeds, 1, 3)


class TestAgainstASearch(ChaseCase):

    def test_all_meetings_of_up_to_four(self):
        chance = random.Random(15)
        for guests in ([3], [3, 0], [3, 0, TOP], [3, 0, TOP, 12]):
            pairs = list(itertools.combinations(guests, 2))
            for chosen in itertools.product((False, True), repeat=len(pairs)):
                met = [pair for pair, is_met in zip(pairs, chosen) if is_met]
                self.check_against_search(laid_out(guests, met, drawn_rings(chance, guests)))

    def test_drawn_meetings_of_five(self):
        chance = random.Random(16)
        guests = [7, 2, 900, TOP, 5]
        pairs = list(itertools.combinations(guests, 2))
        for again in range(40):
            met = chance.sample(pairs, chance.randint(4, 10))
            self.check_against_search(laid_out(guests, met, drawn_rings(chance, guests)))


class TestDrawnHalls(ChaseCase):

    def check_some(self, chance, hall):
        guests = hall.guests()
        for again in range(6 if guests else 0):
            mask, guest = chance.choice(guests), chance.choice(guests)
            self.check_chase(hall, mask, guest, distance(hall, self.wearer_of(hall, mask), guest))
        gone = next(unused(hall, 70))
        for ask in (chase_row, shut_group):
            self.refused(NoGuest, gone, ask, hall, gone, gone + 1)
            for guest in guests[:1]:
                self.refused(NoGuest, gone, ask, hall, guest, gone)

    def test_evenings(self):
        chance = random.Random(17)
        for hall in drawn_halls() + [drawn_layout(seed) for seed in range(80)]:
            self.check_some(chance, hall)

    def test_halls_in_which_few_pairs_are_left(self):
        chance = random.Random(18)
        told = set()
        for many in range(2, 26):
            guests = drawn_numbers(chance, many)[:many]
            free = [tuple(chance.sample(guests, 2)) for k in range(many)]
            hall = laid_out(guests, all_but(guests, free), drawn_rings(chance, guests))
            self.check_some(chance, hall)
            told |= {shut_group(hall, mask, guests[0]) is None for mask in guests}
        self.assertEqual(told, {False, True})


if __name__ == "__main__":
    unittest.main()
