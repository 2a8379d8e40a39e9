"""Going home, points 10, 11, 12, 13 and 14."""

import inspect
import itertools
import unittest

from evenings import (
    TOP, Unchanged, drawn_halls, drawn_layout, hall_of, has_hub, is_stuck, laid_out, met_of, plain_rings, unused,
    with_newcomers,
)
from lastwaltz import homeway
from lastwaltz.errors import NoGuest, NotNew, NoWay, Same
from lastwaltz.hall import Hall
from lastwaltz.homeway import (
    home_many, home_row, hub_row, hubless_rings, is_new, one_row, stuck_rings, two_many, two_row,
)


def all_layouts(sizes):
    """A hall for each way in which guests of rings of these sizes may have met within their rings."""
    numbers = iter((3, 0, 700, 12, TOP, 5, 44, 1))
    rings = [[next(numbers) for k in range(size)] for size in sizes]
    guests = [guest for ring in rings for guest in ring]
    pairs = [pair for ring in rings for pair in itertools.combinations(ring, 2)]
    for chosen in itertools.product((False, True), repeat=len(pairs)):
        yield laid_out(guests, [pair for pair, is_met in zip(pairs, chosen) if is_met], rings)


def sample_halls():
    """Halls of all sorts, from empty ones to ones in which all have met."""
    halls = [Hall(), hall_of(4), hall_of(4, TOP), hall_of(0, 1, 2, 3)]
    for sizes in ((2,), (3,), (4,), (2, 2), (3, 2), (2, 2, 2)):
        halls.extend(all_layouts(sizes))
    return halls + [drawn_layout(seed) for seed in range(300)] + drawn_halls()


def rings_by_sort(hall):
    """The rings that have a hub, those without one that are not stuck, and the stuck ones."""
    met = met_of(hall)
    rings = plain_rings(hall)
    hubbed = [ring for ring in rings if has_hub(ring, met)]
    stuck = [ring for ring in rings if is_stuck(ring, met)]
    loose = [ring for ring in rings if ring not in hubbed and ring not in stuck]
    return hubbed, loose, stuck


def two_for(hall, least):
    """Two numbers that never were in the hall, the first the greater one."""
    numbers = unused(hall, least)
    lesser = next(numbers)
    return next(numbers), lesser


def count_pairs(rings, more):
    return sum(len(ring) + more for ring in rings)


class HomeCase(Unchanged, unittest.TestCase):

    def of_one_ring(self, hall, pair):
        return any(pair[0] in ring and pair[1] in ring for ring in plain_rings(hall))


class TestInterface(unittest.TestCase):

    def test_names_and_arguments(self):
        for name, arguments in (
            ("is_new", ["hall", "guest"]), ("hubless_rings", ["hall"]), ("stuck_rings", ["hall"]),
            ("hub_row", ["hall"]), ("one_row", ["hall", "one"]), ("two_many", ["hall"]),
            ("two_row", ["hall", "one", "other"]), ("home_many", ["hall"]), ("home_row", ["hall", "one", "other"]),
        ):
            self.assertEqual(list(inspect.signature(getattr(homeway, name)).parameters), arguments, name)


class TestSamples(unittest.TestCase):

    def test_all_sorts_are_among_them(self):
        found = set()
        for hall in sample_halls():
            found.add(tuple(bool(rings) for rings in rings_by_sort(hall)))
        self.assertEqual(found, set(itertools.product((False, True), repeat=3)))


class TestNewcomers(HomeCase):

    def test_by_hand(self):
        hall = hall_of(1, 2, 3, 0, TOP)
        self.assertIs(self.told(is_new, hall, 0), True)
        hall.exchange(1, 2)
        for guest, new in ((1, False), (2, False), (3, True), (0, True), (TOP, True)):
            self.assertIs(self.told(is_new, hall, guest), new)
        self.refused(NoGuest, 7, is_new, hall, 7)

    def test_on_no_visit(self):
        hall = hall_of(1, 2, 3, 4, 5)
        for one, other in ((1, 2), (3, 4), (1, 3), (2, 4), (1, 4), (2, 3)):
            hall.exchange(one, other)
        for guest in (1, 5, 4):
            hall.go(guest)
        self.refused(NoGuest, 1, is_new, hall, 1)
        self.refused(NoGuest, 5, is_new, hall, 5)
        hall.come(1)
        hall.come(5)
        self.assertIs(self.told(is_new, hall, 1), False)
        self.assertIs(self.told(is_new, hall, 2), False)
        self.assertIs(self.told(is_new, hall, 5), True)

    def test_who_met_only_one_that_is_gone_is_not_new(self):
        hall = laid_out([1, 2], [], [[1, 2]])
        self.assertIs(hall.met(1, 2), False)
        self.assertIs(self.told(is_new, hall, 1), False)

    def test_drawn_halls(self):
        for hall in drawn_halls(1):
            met = met_of(hall)
            for guest in hall.guests():
                self.assertIs(is_new(hall, guest), not any(guest in pair for pair in met))


class TestHubsAndStuckRings(HomeCase):

    def test_two_who_met(self):
        hall = hall_of(1, 2)
        hall.exchange(1, 2)
        self.assertEqual(self.told(hubless_rings, hall), [[1, 2]])
        self.assertEqual(self.told(stuck_rings, hall), [[1, 2]])

    def test_two_who_never_met(self):
        hall = laid_out([1, 2], [], [[1, 2]])
        self.assertEqual(self.told(hubless_rings, hall), [])
        self.assertEqual(self.told(stuck_rings, hall), [])

    def test_three_of_whom_two_pairs_met(self):
        hall = laid_out([1, 2, 3], [(1, 2), (3, 1)], [[1, 2, 3]])
        self.assertEqual(self.told(hubless_rings, hall), [[1, 2, 3]])
        self.assertEqual(self.told(stuck_rings, hall), [])

    def test_three_of_whom_one_pair_met(self):
        hall = laid_out([1, 2, 3], [(1, 2)], [[1, 2, 3]])
        self.assertEqual(self.told(hubless_rings, hall), [])
        self.assertEqual(self.told(stuck_rings, hall), [])

    def test_four_who_met_across(self):
        hall = laid_out([1, 2, 3, 4], [(1, 3), (2, 4)], [[1, 2, 3, 4]])
        self.assertEqual(self.told(hubless_rings, hall), [[1, 2, 3, 4]])
        self.assertEqual(self.told(stuck_rings, hall), [])

    def test_meetings_with_others_don_t_matter(self):
        hall = laid_out([1, 2, 3, 4, 5], [(1, 3), (1, 4), (2, 5), (2, 3), (2, 4)], [[1, 2], [3, 4]])
        self.assertEqual(self.told(hubless_rings, hall), [])
        self.assertEqual(self.told(stuck_rings, hall), [])

    def test_all_sorts(self):
        for hall in sample_halls():
            hubbed, loose, stuck = rings_by_sort(hall)
            self.assertEqual(self.told(hubless_rings, hall), sorted(loose + stuck))
            self.assertEqual(self.told(stuck_rings, hall), stuck)


class TestHubRow(HomeCase):

    def test_all_sorts(self):
        for hall in sample_halls():
            hubbed, loose, stuck = rings_by_sort(hall)
            if loose or stuck:
                self.refused(NoWay, None, hub_row, hall)
                continue
            row = self.row_told(hub_row, hall)
            self.assertEqual(len(row), count_pairs(hubbed, -1))
            for pair in row:
                self.assertTrue(self.of_one_ring(hall, pair))
            self.sends_home(hall, row)

    def test_only_one_can_be_the_hub(self):
        for hub in (1, 2, 3, 4):
            others = [guest for guest in (1, 2, 3, 4) if guest != hub]
            met = [(others[0], others[1]), (others[1], others[2])]
            hall = laid_out([1, 2, 3, 4], met, [[1, 3, 2, 4]])
            row = self.row_told(hub_row, hall)
            self.assertEqual(len(row), 3)
            self.sends_home(hall, row)


class TestOneRow(HomeCase):

    def test_all_sorts(self):
        for hall in sample_halls():
            hubbed, loose, stuck = rings_by_sort(hall)
            for least in (0, 900000000000):
                one = two_for(hall, least)[0]
                ready = with_newcomers(hall, one)
                if stuck:
                    self.refused(NoWay, None, one_row, ready, one)
                    continue
                row = self.row_told(one_row, ready, one)
                self.assertEqual(len(row), count_pairs(hubbed + loose, 1))
                for pair in row:
                    with_one = one in pair and any(guest in ring for ring in hubbed + loose for guest in pair)
                    self.assertTrue(with_one or self.of_one_ring(hall, pair))
                self.sends_home(ready, row)

    def test_the_one_place_where_two_never_met(self):
        ring = [6, 2, 9, 4, 1]
        for at in range(5):
            met = [(ring[k - 1], ring[k]) for k in range(5) if k != at]
            hall = with_newcomers(laid_out(ring, met, [ring]), 8)
            row = self.row_told(one_row, hall, 8)
            self.assertEqual(len(row), 6)
            self.sends_home(hall, row)

    def test_no_stray(self):
        hall = hall_of(1, 2, 3)
        self.assertEqual(self.told(one_row, hall, 2), [])

    def test_refusals_in_their_order(self):
        hall = hall_of(1, 2, 3)
        hall.exchange(1, 2)
        self.refused(NoGuest, 9, one_row, hall, 9)
        self.refused(NotNew, None, one_row, hall, 2)
        self.refused(NoWay, None, one_row, hall, 3)
        hall.go(3)
        self.refused(NoGuest, 3, one_row, hall, 3)

    def test_refused_where_nobody_needs_the_newcomer_too(self):
        hall = hall_of(1, 2, 3, 4)
        for one, other in ((1, 2), (3, 4), (1, 3), (2, 4), (1, 4), (2, 3)):
            hall.exchange(one, other)
        self.refused(NotNew, None, one_row, hall, 1)
        self.refused(NoGuest, 0, one_row, hall, 0)
        hall.go(1)
        hall.come(1)
        self.refused(NotNew, None, one_row, hall, 1)


class TestTwoRow(HomeCase):

    def test_all_sorts(self):
        for hall in sample_halls():
            rings = plain_rings(hall)
            many = count_pairs(rings, 1) + 2 if rings else 0
            self.assertEqual(self.told(two_many, hall), many)
            for least in (0, 900000000000):
                two = two_for(hall, least)
                ready = with_newcomers(hall, *two)
                row = self.row_told(two_row, ready, *two)
                self.assertEqual(len(row), many)
                self.assertEqual(self.told(two_many, ready), many)
                for pair in row:
                    self.assertTrue(set(pair) & set(two))
                self.sends_home(ready, row)

    def fewest_with_two(self, hall, two):
        """The least length of rows that send all home with one of the two in each pair, by a search."""
        guests = hall.guests()
        pairs = [pair for pair in itertools.combinations(range(len(guests)), 2) if {guests[k] for k in pair} & set(two)]
        states = {(tuple(hall.wears(guest) for guest in guests), 0)}
        many = 0
        while states:
            if any(masks == tuple(guests) for masks, used in states):
                return many
            states = {
                (swapped(masks, pair), used | 1 << at)
                for masks, used in states for at, pair in enumerate(pairs) if not used >> at & 1
            }
            many += 1

    def test_no_such_row_is_shorter(self):
        for rings in ([], [[1, 2]], [[1, 2, 3]], [[1, 2, 3, 4]], [[1, 2], [3, 4]]):
            for met in ([], [(1, 2), (3, 4)], [(1, 3), (2, 3), (1, 4)]):
                hall = with_newcomers(laid_out([1, 2, 3, 4], met, rings), 0, 9)
                self.assertEqual(self.told(two_many, hall), self.fewest_with_two(hall, (0, 9)))

    def test_long_rings(self):
        guests = list(range(0, 4000, 2))
        hall = hall_of(*guests)
        for at in range(0, 2000, 5):
            for one, other in zip(guests[at:at + 5], guests[at + 1:at + 5]):
                hall.exchange(one, other)
        ready = with_newcomers(hall, 1, 3)
        for ask in (two_row, home_row):
            row = ask(ready, 1, 3)
            self.assertEqual(len(row), 2000 + 400 + (2 if ask == two_row else 0))
            self.sends_home(ready, row)


def swapped(masks, pair):
    masks = list(masks)
    masks[pair[0]], masks[pair[1]] = masks[pair[1]], masks[pair[0]]
    return tuple(masks)


class TestHomeRow(HomeCase):

    def check_row(self, hall, two):
        """All that point 14 tells of the mixed row."""
        hubbed, loose, stuck = rings_by_sort(hall)
        of_hubbed = {guest for ring in hubbed for guest in ring}
        strays = {guest for ring in hubbed + loose + stuck for guest in ring}
        ready = with_newcomers(hall, *two)
        row = self.row_told(home_row, ready, *two)
        by_hubs = [pair for pair in row if set(pair) & of_hubbed]
        self.assertEqual(len(by_hubs), count_pairs(hubbed, -1))
        self.assertEqual(len(row) - len(by_hubs), count_pairs(loose + stuck, 1) + (2 if stuck else 0))
        for pair in row:
            self.assertTrue(set(pair) & set(two) or self.of_one_ring(hall, pair))
            self.assertLessEqual(set(pair), strays | set(two))
        self.assertEqual(self.told(home_many, hall), len(row))
        self.assertEqual(self.told(home_many, ready), len(row))
        self.sends_home(ready, row)

    def test_all_sorts(self):
        for hall in sample_halls():
            for least in (0, 900000000000):
                self.check_row(hall, two_for(hall, least))

    def test_numbers_by_hand(self):
        # A ring with a hub takes 2 pairs, one without 4, a stuck one 3, and two more for that.
        guests = list(range(1, 9))
        met = [(4, 5), (5, 6), (7, 8)]
        for rings, many in (
            ([], 0), ([[1, 2, 3]], 2), ([[4, 5, 6]], 4), ([[7, 8]], 5), ([[1, 2, 3], [4, 5, 6]], 6),
            ([[1, 2, 3], [7, 8]], 7), ([[4, 5, 6], [7, 8]], 9), ([[1, 2, 3], [4, 5, 6], [7, 8]], 11),
        ):
            hall = laid_out(guests, met, rings)
            self.assertEqual(self.told(home_many, hall), many)
            self.check_row(hall, (0, 9))
            self.check_row(hall, (TOP, 10))


class TestRefusalsOfTwo(HomeCase):

    def test_in_their_order(self):
        strayed = hall_of(1, 2, 3, 4, 5)
        strayed.exchange(1, 2)
        settled = laid_out([1, 2, 3, 4, 5], [(1, 2)], [])
        for hall in (strayed, settled):
            for ask in (two_row, home_row):
                self.refused(NoGuest, 9, ask, hall, 9, 8)
                self.refused(NoGuest, 8, ask, hall, 8, 9)
                self.refused(NoGuest, 9, ask, hall, 9, 9)
                self.refused(NoGuest, 9, ask, hall, 9, 3)
                self.refused(NoGuest, 9, ask, hall, 3, 9)
                self.refused(NoGuest, 9, ask, hall, 1, 9)
                self.refused(NoGuest, 9, ask, hall, 9, 1)
                self.refused(Same, None, ask, hall, 3, 3)
                self.refused(Same, None, ask, hall, 1, 1)
                self.refused(NotNew, None, ask, hall, 1, 2)
                self.refused(NotNew, None, ask, hall, 1, 3)
                self.refused(NotNew, None, ask, hall, 3, 1)
                self.row_told(ask, hall, 3, 4)

    def test_who_met_on_an_earlier_visit(self):
        hall = laid_out([1, 2, 3, 4], [(1, 2)], [])
        hall.go(1)
        for ask in (two_row, home_row):
            self.refused(NoGuest, 1, ask, hall, 1, 3)
        hall.come(1)
        for ask in (two_row, home_row):
            self.refused(NotNew, None, ask, hall, 1, 3)
            self.refused(NotNew, None, ask, hall, 3, 1)
            self.assertEqual(self.told(ask, hall, 3, 4), [])


class TestToldStays(HomeCase):

    def test_no_later_deed_changes_it(self):
        hall = with_newcomers(laid_out([1, 2, 3, 4, 5], [(4, 5)], [[1, 3, 2]]), 8, 9)
        stuck = with_newcomers(laid_out([1, 2, 3, 4, 5], [(4, 5)], [[1, 3, 2], [4, 5]]), 8, 9)
        deeds = [("exchange", 1, 4), ("come", 7), ("exchange", 8, 3), ("exchange", 3, 2)]
        for ask, args in ((hub_row, ()), (one_row, (8,)), (two_row, (8, 9)), (home_row, (8, 9))):
            self.stays_told(ask, hall, deeds, *args)
        for ask, args in ((hubless_rings, ()), (stuck_rings, ()), (two_row, (8, 9)), (home_row, (8, 9))):
            self.stays_told(ask, stuck, deeds, *args)


if __name__ == "__main__":
    unittest.main()
