"""The morning after, point 16."""

import inspect
import itertools
import random
import unittest

from evenings import (
    TOP, Unchanged, drawn_halls, drawn_layout, hall_of, laid_out, masks_of, plain_strays, rings_in, unused,
)
from lastwaltz import morning
from lastwaltz.errors import NoWay
from lastwaltz.hall import Hall
from lastwaltz.morning import barred_group, morning_row


def circles(guests, terms):
    """The guests parted into those who can reach one another, by joining what terms join."""
    circle = {guest: {guest} for guest in guests}
    for one, other in terms:
        if one in circle and other in circle:
            joined = circle[one] | circle[other]
            for guest in joined:
                circle[guest] = joined
    return circle


def drawn_terms(chance, hall, many):
    """Terms of guests in the hall and of others, either way round, twice, of one guest."""
    guests = hall.guests()
    strangers = [number for number, k in zip(unused(hall, 40), range(4))]
    gone = sorted({deed[1] for deed in hall.story()} - set(guests))[:4]
    terms = []
    for k in range(many):
        one = chance.choice(guests)
        other = chance.choice(guests if chance.random() < 0.8 else guests + strangers + gone)
        terms.append(chance.choice(((one, other), (other, one))))
        if chance.random() < 0.2:
            terms.append(chance.choice(((one, other), (other, one))))
        if chance.random() < 0.1:
            terms.append((one, one))
            terms.append(tuple(chance.choice(strangers + gone) for side in range(2)))
    return terms


def drawn_tree(chance, guests):
    """Terms that just hold all of the guests together."""
    guests = list(guests)
    chance.shuffle(guests)
    return [
        chance.choice(((guest, before), (before, guest)))
        for at, guest in enumerate(guests) if at for before in [chance.choice(guests[:at])]
    ]


class MorningCase(Unchanged, unittest.TestCase):

    def check_morning(self, hall, terms):
        """Just one of the two is told, as the terms have it. Gives back True where it is a row."""
        worn = masks_of(hall)
        circle = circles(worn, terms)
        if any(worn[guest] not in circle[guest] for guest in worn):
            self.refused(NoWay, None, morning_row, hall, terms)
            self.check_group(hall, terms, self.told(barred_group, hall, terms))
            return False
        self.assertIsNone(self.told(barred_group, hall, terms))
        self.check_row(hall, terms, self.row_told(morning_row, hall, terms))
        return True

    def check_row(self, hall, terms, row):
        worn = masks_of(hall)
        known = {frozenset(pair) for pair in terms}
        for one, other in row:
            self.assertNotEqual(one, other)
            self.assertIn(frozenset((one, other)), known)
            worn[one], worn[other] = worn[other], worn[one]
        self.assertEqual(worn, {guest: guest for guest in worn})
        self.assertLessEqual(len(row), len(worn) * (len(worn) - 1) // 2)

    def check_group(self, hall, terms, group):
        worn = masks_of(hall)
        self.assertIs(type(group), list)
        self.assertEqual(group, sorted(set(group)))
        self.assertTrue(group)
        self.assertLessEqual(set(group), set(worn))
        for one, other in terms:
            if one in worn and other in worn:
                self.assertEqual(one in group, other in group)
        self.assertTrue(any(worn[guest] not in group for guest in group))


class TestInterface(unittest.TestCase):

    def test_names_and_arguments(self):
        for name in ("morning_row", "barred_group"):
            self.assertEqual(list(inspect.signature(getattr(morning, name)).parameters), ["hall", "terms"])


class TestByHand(MorningCase):

    def test_nobody_and_nobody_astray(self):
        for hall in (Hall(), hall_of(3), hall_of(0, TOP, 5)):
            for terms in ([], [(0, TOP)], [(3, 3), (8, 9)], [(5, 0), (0, 5), (TOP, 5)]):
                self.assertTrue(self.check_morning(hall, terms))
                self.assertEqual(self.told(barred_group, hall, terms), None)

    def test_two_who_met(self):
        hall = hall_of(1, 2)
        hall.exchange(1, 2)
        for terms in ([(1, 2)], [(2, 1)], [(1, 2), (2, 1), (1, 2)], [(1, 1), (1, 2), (2, 7), (7, 8)]):
            row = self.row_told(morning_row, hall, terms)
            self.assertEqual([set(pair) for pair in row], [{1, 2}])
            self.assertTrue(self.check_morning(hall, terms))

    def test_two_not_on_terms(self):
        hall = hall_of(1, 2, 3)
        hall.exchange(1, 2)
        for terms in ([], [(1, 1), (2, 2)], [(1, 3)], [(1, 7), (7, 2)], [(1, 7), (7, 7), (2, 7), (3, 2)]):
            self.assertFalse(self.check_morning(hall, terms))
        self.assertTrue(self.check_morning(hall, [(1, 3), (3, 2)]))

    def test_one_who_went_brings_nobody_together(self):
        hall = hall_of(1, 2, 3)
        hall.exchange(1, 2)
        hall.go(3)
        self.assertFalse(self.check_morning(hall, [(1, 3), (3, 2)]))
        hall.come(3)
        self.assertTrue(self.check_morning(hall, [(1, 3), (3, 2)]))

    def test_the_longest_row(self):
        # Along a line, whose masks lie the other way round, no row is shorter than the bound.
        for many in (2, 3, 4, 7, 12):
            guests = [0, 40, 3, TOP, 8, 1, 17, 100, 5, 60, 2, 31][:many]
            rings = [[guests[k], guests[-1 - k]] for k in range(many // 2)]
            hall = laid_out(guests, [], rings)
            terms = list(zip(guests, guests[1:]))
            self.assertTrue(self.check_morning(hall, terms))
            self.assertEqual(len(morning_row(hall, terms)), many * (many - 1) // 2)

    def test_some_on_terms_among_themselves(self):
        hall = laid_out([1, 2, 3, 4, 5, 6], [], [[1, 2, 3], [5, 6]])
        near = [(1, 2), (2, 3)]
        self.assertTrue(self.check_morning(hall, near + [(5, 6)]))
        self.assertTrue(self.check_morning(hall, near + [(5, 4), (4, 6)]))
        self.assertFalse(self.check_morning(hall, near + [(5, 4)]))
        self.assertFalse(self.check_morning(hall, near + [(5, 4), (6, 3)]))
        self.assertFalse(self.check_morning(hall, [(1, 2), (5, 6), (3, 4)]))

    def test_a_long_line(self):
        guests = list(range(150))
        hall = laid_out(guests, [], [guests])
        self.assertTrue(self.check_morning(hall, list(zip(guests, guests[1:]))))
        self.assertFalse(self.check_morning(hall, list(zip(guests, guests[1:-1]))))

    def test_what_was_told_stays(self):
        hall = laid_out([1, 2, 3, 4], [], [[1, 2, 3]])
        deeds = [("exchange", 1, 4), ("come", 7), ("exchange", 7, 2)]
        self.stays_told(morning_row, hall, deeds, [(1, 2), (2, 3)])
        self.stays_told(barred_group, hall, deeds, [(1, 2)])


class TestAllSmallMornings(MorningCase):

    def test_all_masks_and_all_terms_of_four(self):
        guests = (2, 0, TOP, 9)
        pairs = list(itertools.combinations(guests, 2))
        for masks in itertools.permutations(guests):
            worn = dict(zip(guests, masks))
            hall = laid_out(guests, [], rings_in(worn))
            self.assertEqual(masks_of(hall), worn)
            for chosen in itertools.product((False, True), repeat=len(pairs)):
                self.check_morning(hall, [pair for pair, on_terms in zip(pairs, chosen) if on_terms])


class TestDrawnMornings(MorningCase):

    def test_drawn_halls_and_terms(self):
        chance = random.Random(19)
        told = {True: 0, False: 0}
        for hall in drawn_halls() + [drawn_layout(seed) for seed in range(150)]:
            guests = hall.guests()
            for many in (0, len(guests) // 2, len(guests), 3 * len(guests)):
                terms = drawn_terms(chance, hall, many) if guests else [(5, 6), (7, 7)]
                is_row = self.check_morning(hall, terms)
                told[is_row] += bool(plain_strays(hall))
            self.assertTrue(self.check_morning(hall, drawn_tree(chance, guests)))
        self.assertGreater(min(told.values()), 50)


if __name__ == "__main__":
    unittest.main()
