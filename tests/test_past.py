"""What was, points 19 and 20, with 2 and 6."""

import inspect
import unittest

from evenings import (
    TOP, Unchanged, drawn_halls, drawn_layout, free_pairs, gone_from, hall_of, laid_out, lay_masks, move_masks, seen,
    strangers, unused,
)
from lastwaltz import past
from lastwaltz.errors import NoGuest, NoMoment
from lastwaltz.hall import Hall
from lastwaltz.past import face_walk, hall_at, mask_walk


def replayed(deeds):
    hall = Hall()
    for deed in deeds:
        getattr(hall, deed[0])(*deed[1:])
    return hall


def masks_by_moment(hall):
    """Who wears which mask at each moment, from the story."""
    shots = [{}]
    for deed in hall.story():
        shots.append(dict(shots[-1]))
        move_masks(shots[-1], deed)
    return shots


def last_coming(hall, guest):
    return max(moment for moment, deed in enumerate(hall.story(), 1) if deed == ("come", guest))


def plain_walk(hall, guest, shots):
    """The moments from the guest's last coming on at which something else stands in the shots."""
    walk = []
    for moment in range(last_coming(hall, guest), hall.moment() + 1):
        if not walk or walk[-1][1] != shots[moment][guest]:
            walk.append((moment, shots[moment][guest]))
    return walk


def sample_halls():
    return [Hall(), hall_of(TOP), hall_of(0, 1)] + [drawn_layout(seed) for seed in range(60)] + drawn_halls()


class PastCase(Unchanged, unittest.TestCase):

    def go_on(self, hall):
        """Some deeds more."""
        newcomer = strangers(hall, 1)[0]
        hall.come(newcomer)
        for pair in free_pairs(hall)[:2]:
            hall.exchange(*pair)


class TestInterface(unittest.TestCase):

    def test_names_and_arguments(self):
        for name, arguments in (
            ("hall_at", ["hall", "moment"]), ("mask_walk", ["hall", "mask"]), ("face_walk", ["hall", "guest"]),
        ):
            self.assertEqual(list(inspect.signature(getattr(past, name)).parameters), arguments, name)


class TestHallAt(PastCase):

    def check_moment(self, hall, moment):
        """The hall at the moment, and that it and the hall know nothing of one another."""
        before = seen(hall)
        then = hall_at(hall, moment)
        self.assertIs(type(then), Hall)
        wished = seen(replayed(hall.story()[:moment]))
        self.assertEqual(seen(then), wished)
        self.go_on(then)
        self.assertEqual(seen(hall), before)
        self.assertEqual(seen(hall_at(hall, moment)), wished)

    def test_by_hand(self):
        hall = hall_of(1, 2, 3)
        hall.exchange(2, 1)
        hall.go(3)
        for moment, guests, worn, pairs in (
            (0, [], [], []), (1, [1], [1], []), (2, [1, 2], [1, 2], []), (3, [1, 2, 3], [1, 2, 3], []),
            (4, [1, 2, 3], [2, 1, 3], [(1, 2)]), (5, [1, 2], [2, 1], [(1, 2)]),
        ):
            then = hall_at(hall, moment)
            self.assertEqual((then.guests(), then.pairs(), then.moment()), (guests, pairs, moment))
            self.assertEqual([then.wears(guest) for guest in guests], worn)
            self.assertEqual(then.story(), hall.story()[:moment])

    def test_no_moment(self):
        for hall in (Hall(), hall_of(1, 2), drawn_layout(5)):
            for moment in (-1, -2, -TOP, hall.moment() + 1, hall.moment() + 2, TOP):
                self.refused(NoMoment, None, hall_at, hall, moment)

    def test_a_moment_comes(self):
        hall = hall_of(1)
        self.refused(NoMoment, None, hall_at, hall, 2)
        hall.come(2)
        self.assertEqual(hall_at(hall, 2).guests(), [1, 2])

    def test_every_moment(self):
        for hall in sample_halls():
            then = Hall()
            for moment, deed in enumerate(hall.story()):
                self.assertEqual(seen(hall_at(hall, moment)), seen(then))
                getattr(then, deed[0])(*deed[1:])
            self.assertEqual(seen(hall_at(hall, hall.moment())), seen(then))
            self.assertEqual(seen(then), seen(hall))
            for moment in (-2, -1, hall.moment() + 1, hall.moment() + 2):
                self.refused(NoMoment, None, hall_at, hall, moment)

    def test_deeds_done_in_what_was_told(self):
        for hall in sample_halls():
            last = hall.moment()
            for moment in sorted({0, last // 3, last // 2, max(last - 1, 0), last}):
                self.check_moment(hall, moment)

    def test_no_later_deed_changes_it(self):
        hall = laid_out([1, 2, 3], [(1, 2)], [[1, 2, 3]])
        for moment in (0, 3, hall.moment()):
            then = hall_at(hall, moment)
            kept = seen(then)
            twin = hall.twin()
            self.go_on(hall)
            self.assertEqual(seen(then), kept)
            self.assertEqual(seen(hall_at(twin, moment)), kept)

    def test_the_past_of_the_past(self):
        hall = drawn_layout(8)
        for moment in range(0, hall.moment() + 1, 5):
            then = hall_at(hall, moment)
            for earlier in range(0, moment + 1, 5):
                self.assertEqual(seen(hall_at(then, earlier)), seen(hall_at(hall, earlier)))
            self.refused(NoMoment, None, hall_at, then, moment + 1)


class TestWalks(PastCase):

    def test_by_hand(self):
        hall = hall_of(1, 2, 3)
        hall.exchange(1, 2)
        hall.exchange(3, 1)
        hall.exchange(2, 3)
        for mask, walk in ((1, [(1, 1), (4, 2), (6, 3)]), (2, [(2, 2), (4, 1), (5, 3), (6, 2)]), (3, [(3, 3), (5, 1)])):
            self.assertEqual(self.told(mask_walk, hall, mask), walk)
        for guest, walk in ((1, [(1, 1), (4, 2), (5, 3)]), (2, [(2, 2), (4, 1), (6, 2)]),
            (3, [(3, 3), (5, 2), (6, 1)])):
            self.assertEqual(self.told(face_walk, hall, guest), walk)

    def test_from_the_last_coming_on(self):
        hall = hall_of(1, 2, 3, 4)
        for pair in ((1, 2), (3, 4), (1, 3), (2, 4), (1, 4), (2, 3)):
            hall.exchange(*pair)
        self.assertEqual(self.told(mask_walk, hall, 1), [(1, 1), (5, 2), (8, 4), (9, 1)])
        self.assertEqual(self.told(face_walk, hall, 1), [(1, 1), (5, 2), (7, 4), (9, 1)])
        hall.go(1)
        self.refused(NoGuest, 1, mask_walk, hall, 1)
        self.refused(NoGuest, 1, face_walk, hall, 1)
        hall.come(5)
        hall.exchange(2, 5)
        hall.come(1)
        self.assertEqual(self.told(mask_walk, hall, 1), [(14, 1)])
        self.assertEqual(self.told(face_walk, hall, 1), [(14, 1)])
        hall.exchange(5, 1)
        self.assertEqual(self.told(mask_walk, hall, 1), [(14, 1), (15, 5)])
        self.assertEqual(self.told(face_walk, hall, 1), [(14, 1), (15, 2)])
        self.assertEqual(self.told(mask_walk, hall, 2)[-2:], [(13, 5), (15, 1)])

    def test_no_guest(self):
        hall = hall_of(1, 2)
        hall.go(2)
        for ask in (mask_walk, face_walk):
            for number in (0, 2, 3, TOP):
                self.refused(NoGuest, number, ask, hall, number)
                self.refused(NoGuest, number, ask, Hall(), number)

    def check_walks(self, hall):
        shots = masks_by_moment(hall)
        holders = [{mask: guest for guest, mask in worn.items()} for worn in shots]
        for guest in hall.guests():
            self.assertEqual(self.told(face_walk, hall, guest), plain_walk(hall, guest, shots))
            self.assertEqual(self.told(mask_walk, hall, guest), plain_walk(hall, guest, holders))
            for ask in (face_walk, mask_walk):
                for moment, number in ask(hall, guest):
                    self.assertIn(hall.story()[moment - 1][0], ("come", "exchange"))
        for guest in gone_from(hall)[:3] + strangers(hall, 1):
            self.refused(NoGuest, guest, face_walk, hall, guest)
            self.refused(NoGuest, guest, mask_walk, hall, guest)

    def test_against_the_story(self):
        for hall in sample_halls():
            self.check_walks(hall)

    def test_going_and_coming_again(self):
        for seed in range(25):
            hall = drawn_layout(seed)
            for again in range(3):
                lay_masks(hall, {guest: guest for guest in hall.guests()}, unused(hall, 7000000))
                for guest in hall.guests()[again::2]:
                    hall.go(guest)
                    self.refused(NoGuest, guest, face_walk, hall, guest)
                    hall.come(guest)
                self.go_on(hall)
                self.check_walks(hall)

    def test_no_later_deed_changes_it(self):
        hall = laid_out([1, 2, 3], [(1, 2)], [[1, 2, 3]])
        hall.come(9)
        deeds = [("exchange", 1, 9), ("exchange", 9, 2), ("come", 11), ("exchange", 11, 1)]
        for ask in (mask_walk, face_walk):
            for guest in (1, 2, 3, 9):
                self.stays_told(ask, hall, deeds, guest)


if __name__ == "__main__":
    unittest.main()
