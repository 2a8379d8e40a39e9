"""Rows on paper, points 2, 3, 4 and 9."""

import itertools
import random
import unittest

from lastwaltz.errors import Same
from lastwaltz.rows import all_unlike, moved_by, quadrille, same_effect, shortest_row, turned_row

TOP = 999999999999


def danced(row, worn):
    """The plain reading of a row: the masks behind it, of those in worn."""
    worn = dict(worn)
    for one, other in row:
        worn[one], worn[other] = worn[other], worn[one]
    return worn


def behind(row, guests):
    return danced(row, {guest: guest for guest in guests})


def guests_of(row):
    return sorted({guest for pair in row for guest in pair})


def fewest(row):
    """Guests in a wrong mask less rings."""
    worn = behind(row, guests_of(row))
    strays = {guest for guest in worn if worn[guest] != guest}
    many = len(strays)
    rings = 0
    while strays:
        rings += 1
        at = min(strays)
        while at in strays:
            strays.remove(at)
            at = worn[at]
    return many - rings


def sample_rows():
    """Rows of many sizes over guests with holes in their numbers, the ends among them."""
    chance = random.Random(20261117)
    guests = [0, 1, 2, 5, 17, 400, 1000000, TOP - 1, TOP]
    rows = [[], [(0, TOP)], [(TOP, 0)], [(3, 9), (3, 9)], [(3, 9), (9, 3)], [(1, 2), (2, 3), (1, 2)]]
    for many in range(60):
        few = chance.sample(guests, chance.randint(2, len(guests)))
        rows.append([tuple(chance.sample(few, 2)) for step in range(many % 20)])
    return rows


class RowsCase(unittest.TestCase):

    def assertRow(self, row):
        self.assertIs(type(row), list)
        for pair in row:
            self.assertIs(type(pair), tuple)
            self.assertEqual(len(pair), 2)
            for guest in pair:
                self.assertIs(type(guest), int)


class TestMovedBy(RowsCase):

    def test_empty_row(self):
        self.assertEqual(moved_by([]), [])

    def test_one_pair_in_either_order(self):
        self.assertEqual(moved_by([(4, 2)]), [(2, 4), (4, 2)])
        self.assertEqual(moved_by([(2, 4)]), [(2, 4), (4, 2)])

    def test_a_pair_told_twice_moves_nobody(self):
        self.assertEqual(moved_by([(2, 4), (2, 4)]), [])
        self.assertEqual(moved_by([(2, 4), (4, 2)]), [])

    def test_pairs_exchange_one_behind_the_other(self):
        self.assertEqual(moved_by([(1, 2), (2, 3)]), [(1, 2), (2, 3), (3, 1)])
        self.assertEqual(moved_by([(2, 3), (1, 2)]), [(1, 3), (2, 1), (3, 2)])

    def test_who_is_home_again_is_not_told(self):
        self.assertEqual(moved_by([(1, 2), (2, 3), (1, 2)]), [(1, 3), (3, 1)])

    def test_the_ends_of_the_numbers(self):
        self.assertEqual(moved_by([(TOP, 0)]), [(0, TOP), (TOP, 0)])

    def test_many_rows(self):
        for row in sample_rows():
            worn = behind(row, guests_of(row))
            self.assertEqual(moved_by(row), [(g, worn[g]) for g in sorted(worn) if worn[g] != g])
            self.assertRow(moved_by(row))


class TestTurnedRow(RowsCase):

    def test_empty_row(self):
        self.assertEqual(turned_row([]), [])

    def test_pairs_stay_as_they_were_told(self):
        self.assertEqual(turned_row([(2, 1), (3, 9), (3, 9), (0, TOP)]), [(0, TOP), (3, 9), (3, 9), (2, 1)])

    def test_it_undoes_the_row(self):
        for row in sample_rows():
            self.assertEqual(moved_by(row + turned_row(row)), [])
            self.assertEqual(turned_row(turned_row(row)), row)

    def test_it_is_another_list(self):
        for row in ([], [(1, 2)], [(1, 2), (2, 3)]):
            turned = turned_row(row)
            turned.append((8, 9))
            self.assertNotIn((8, 9), row)


class TestSameEffect(RowsCase):

    def test_same(self):
        for row, other in (
            ([], []),
            ([], [(1, 2), (2, 1)]),
            ([(1, 2)], [(2, 1)]),
            ([(1, 2), (3, 4)], [(3, 4), (1, 2)]),
            ([(1, 2), (2, 3), (1, 2)], [(3, 1)]),
            ([(0, TOP)], [(TOP, 0), (7, 9), (9, 7)]),
        ):
            with self.subTest(row=row, other=other):
                self.assertIs(same_effect(row, other), True)
                self.assertIs(same_effect(other, row), True)

    def test_not_the_same(self):
        for row, other in (
            ([], [(1, 2)]),
            ([(1, 2)], [(1, 3)]),
            ([(1, 2)], [(3, 4)]),
            ([(1, 2), (2, 3)], [(2, 3), (1, 2)]),
            ([(1, 2)], [(1, 2), (3, 4)]),
            ([(0, 1)], [(0, TOP)]),
        ):
            with self.subTest(row=row, other=other):
                self.assertIs(same_effect(row, other), False)
                self.assertIs(same_effect(other, row), False)

    def test_all_short_rows_of_three_guests(self):
        pairs = [(5, 8), (8, 13), (13, 5)]
        rows = [list(row) for many in range(4) for row in itertools.product(pairs, repeat=many)]
        for row in rows:
            for other in rows:
                self.assertIs(same_effect(row, other), behind(row, (5, 8, 13)) == behind(other, (5, 8, 13)))


class TestShortestRow(RowsCase):

    def test_rows_without_effect(self):
        for row in ([], [(1, 2), (1, 2)], [(1, 2), (2, 1)], [(1, 2), (3, 4), (2, 1), (4, 3)]):
            self.assertEqual(shortest_row(row), [])

    def test_many_rows(self):
        for row in sample_rows():
            short = shortest_row(row)
            self.assertRow(short)
            guests = guests_of(row + short)
            self.assertEqual(behind(short, guests), behind(row, guests))
            self.assertEqual(len(short), fewest(row))
            self.assertTrue(all(one != other for one, other in short))

    def test_no_row_of_the_effect_has_fewer_pairs(self):
        guests = (0, 3, 70, TOP)
        pairs = list(itertools.combinations(guests, 2))
        nearest = {}
        for many in range(4):
            for row in itertools.product(pairs, repeat=many):
                nearest.setdefault(tuple(behind(row, guests).items()), many)
        self.assertEqual(len(nearest), 24)
        for row in itertools.product(pairs, repeat=4):
            told = shortest_row(list(row))
            self.assertEqual(len(told), nearest[tuple(behind(row, guests).items())])
            self.assertEqual(behind(told, guests), behind(row, guests))

    def test_a_long_ring(self):
        row = [(guest, guest + 7) for guest in range(0, 70000, 7)]
        short = shortest_row(row)
        self.assertEqual(len(short), 10000)
        self.assertTrue(same_effect(short, row))

    def test_it_is_another_list(self):
        row = [(1, 2)]
        shortest_row(row).append((8, 9))
        self.assertEqual(row, [(1, 2)])
        self.assertEqual(len(shortest_row(row)), 1)


class TestAllUnlike(RowsCase):

    def test_unlike(self):
        for row in (
            [],
            [(1, 2)],
            [(2, 1), (1, 3), (3, 2)],
            [(0, TOP), (TOP, 1), (1, 0)],
            [(1, 23), (12, 3)],
        ):
            with self.subTest(row=row):
                self.assertIs(all_unlike(row), True)

    def test_not_unlike(self):
        for row in (
            [(1, 1)],
            [(0, 0)],
            [(1, 2), (3, 3)],
            [(1, 2), (1, 2)],
            [(1, 2), (2, 1)],
            [(2, 1), (1, 2)],
            [(1, 2), (3, 4), (5, 6), (4, 3)],
            [(TOP, 0), (1, 0), (0, TOP)],
        ):
            with self.subTest(row=row):
                self.assertIs(all_unlike(row), False)


class TestQuadrille(RowsCase):

    fours = ((1, 2, 3, 4), (4, 3, 2, 1), (0, TOP, 17, 5), (TOP, 0, TOP - 1, 1), (9, 100, 3, 40))

    def test_six_pairs_each_two_once(self):
        for four in self.fours:
            row = quadrille(*four)
            self.assertRow(row)
            self.assertEqual(len(row), 6)
            met = sorted(tuple(sorted(pair)) for pair in row)
            self.assertEqual(met, sorted(itertools.combinations(sorted(four), 2)))
            self.assertTrue(all_unlike(row))

    def test_everybody_keeps_their_mask_whatever_it_was(self):
        for four in self.fours:
            row = quadrille(*four)
            self.assertEqual(moved_by(row), [])
            for masks in itertools.permutations(four + (777, 888), 4):
                worn = dict(zip(four, masks))
                self.assertEqual(danced(row, worn), worn)

    def test_the_same_four_always_the_same_row(self):
        for four in self.fours:
            first = quadrille(*four)
            kept = list(first)
            first.clear()
            quadrille(50, 51, 52, 53)
            self.assertEqual(quadrille(*four), kept)

    def test_same_at_any_two_places(self):
        for here, there in itertools.combinations(range(4), 2):
            four = [0, 8, 30, TOP]
            four[there] = four[here]
            with self.subTest(four=four):
                with self.assertRaises(Same):
                    quadrille(*four)

    def test_same_where_more_are_alike(self):
        for four in ((1, 1, 2, 2), (1, 2, 1, 2), (1, 2, 2, 1), (3, 3, 3, 4), (4, 3, 3, 3), (0, 0, 0, 0)):
            with self.subTest(four=four):
                with self.assertRaises(Same):
                    quadrille(*four)


class TestNothingIsShared(RowsCase):

    def test_the_row_handed_in_is_unchanged(self):
        for row in sample_rows() + [[(1, 1)], [(1, 2), (2, 1)]]:
            kept = list(row)
            moved_by(row)
            turned_row(row)
            same_effect(row, row)
            shortest_row(row)
            all_unlike(row)
            self.assertEqual(row, kept)

    def test_what_was_told_changes_no_later_answer(self):
        row = [(1, 2), (2, 3), (9, 5)]
        for ask in (moved_by, turned_row, shortest_row):
            first = ask(row)
            kept = list(first)
            first.reverse()
            first.append((70, 71))
            self.assertEqual(ask(row), kept)

    def test_the_row_changed_later_changes_nothing_told(self):
        for ask in (moved_by, turned_row, shortest_row):
            row = [(1, 2), (2, 3), (9, 5)]
            told = ask(row)
            kept = list(told)
            row.append((3, 9))
            self.assertEqual(told, kept)


if __name__ == "__main__":
    unittest.main()
