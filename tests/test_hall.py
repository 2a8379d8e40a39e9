"""The hall, points 1, 2, 5 and 6."""

import random
import unittest

from lastwaltz.errors import AlreadyIn, Masked, Met, NoGuest, Same, WaltzError
from lastwaltz.hall import Hall

TOP = 999999999999
ASKED = (0, 1, 2, 3, 4, 5, 6, 50, TOP)


def hall_of(*guests):
    hall = Hall()
    for guest in guests:
        hall.come(guest)
    return hall


def answer(ask, *args):
    """What is told, or the refusal's class and guest."""
    try:
        return ask(*args)
    except WaltzError as refusal:
        return (type(refusal), getattr(refusal, "guest", None))


def seen(hall, asked=ASKED):
    """All that can be asked of the hall."""
    return (
        hall.guests(), hall.pairs(), hall.story(), hall.moment(),
        [hall.inside(g) for g in asked],
        [answer(hall.wears, g) for g in asked],
        [answer(hall.wearer, g) for g in asked],
        [hall.partners(g) for g in asked],
        [hall.met(g, h) for g in asked for h in asked],
    )


class PlainHall:
    """The document read plainly: everything is reckoned anew from the story."""

    def __init__(self):
        self.done = []

    def worn(self):
        worn = {}
        for deed in self.done:
            if deed[0] == "come":
                worn[deed[1]] = deed[1]
            elif deed[0] == "go":
                del worn[deed[1]]
            else:
                worn[deed[1]], worn[deed[2]] = worn[deed[2]], worn[deed[1]]
        return worn

    def have_met(self):
        return {frozenset(deed[1:]) for deed in self.done if deed[0] == "exchange"}

    def refusal(self, deed):
        worn = self.worn()
        if deed[0] == "come":
            return (AlreadyIn, None) if deed[1] in worn else None
        for guest in deed[1:]:
            if guest not in worn:
                return (NoGuest, guest)
        if deed[0] == "go":
            return (Masked, None) if worn[deed[1]] != deed[1] else None
        if deed[1] == deed[2]:
            return (Same, None)
        return (Met, None) if frozenset(deed[1:]) in self.have_met() else None

    def judge(self, deed):
        refusal = self.refusal(deed)
        if refusal is None:
            self.done.append(deed)
        return refusal

    def seen(self, asked):
        worn = self.worn()
        wearers = {mask: guest for guest, mask in worn.items()}
        met = self.have_met()
        pairs = sorted(tuple(sorted(pair)) for pair in met)
        return (
            sorted(worn), pairs, list(self.done), len(self.done),
            [g in worn for g in asked],
            [worn.get(g, (NoGuest, g)) for g in asked],
            [wearers.get(g, (NoGuest, g)) for g in asked],
            [sorted(h for pair in met if g in pair for h in pair if h != g) for g in asked],
            [frozenset((g, h)) in met for g in asked for h in asked],
        )


class HallCase(unittest.TestCase):

    def refused(self, hall, kind, deed, *args, guest=None):
        """The deed is refused just so, twice over, and changes nothing."""
        before = seen(hall)
        for attempt in range(2):
            with self.assertRaises(kind) as caught:
                getattr(hall, deed)(*args)
            self.assertIs(type(caught.exception), kind)
            if kind is NoGuest:
                self.assertEqual(caught.exception.guest, guest)
            self.assertEqual(seen(hall), before)


class TestEmptyHall(HallCase):

    def test_all_answers(self):
        hall = Hall()
        self.assertEqual(hall.guests(), [])
        self.assertEqual(hall.pairs(), [])
        self.assertEqual(hall.story(), [])
        self.assertEqual(hall.moment(), 0)
        self.assertIs(hall.inside(0), False)
        self.assertEqual(hall.partners(0), [])
        self.assertIs(hall.met(0, 1), False)
        self.assertIs(hall.met(0, 0), False)

    def test_nobody_to_ask_for(self):
        hall = Hall()
        self.refused(hall, NoGuest, "wears", 0, guest=0)
        self.refused(hall, NoGuest, "wearer", TOP, guest=TOP)

    def test_two_halls_share_nothing(self):
        hall = hall_of(1, 2)
        hall.exchange(1, 2)
        self.assertEqual(seen(Hall()), PlainHall().seen(ASKED))


class TestComing(HallCase):

    def test_a_guest_comes_in_the_own_mask(self):
        hall = Hall()
        for guest in (5, 0, TOP):
            self.assertIsNone(hall.come(guest))
            self.assertEqual(hall.wears(guest), guest)
            self.assertEqual(hall.wearer(guest), guest)
            self.assertIs(hall.inside(guest), True)
        self.assertEqual(hall.guests(), [0, 5, TOP])
        self.assertIs(hall.inside(1), False)

    def test_already_in(self):
        hall = hall_of(0, 3)
        self.refused(hall, AlreadyIn, "come", 0)
        self.refused(hall, AlreadyIn, "come", 3)

    def test_already_in_in_another_mask(self):
        hall = hall_of(0, 3)
        hall.exchange(0, 3)
        self.refused(hall, AlreadyIn, "come", 3)
        self.assertEqual(hall.wears(3), 0)


class TestGoing(HallCase):

    def test_going(self):
        hall = hall_of(4, 1)
        self.assertIsNone(hall.go(4))
        self.assertIs(hall.inside(4), False)
        self.assertEqual(hall.guests(), [1])
        self.refused(hall, NoGuest, "wears", 4, guest=4)
        self.refused(hall, NoGuest, "wearer", 4, guest=4)

    def test_no_guest(self):
        hall = hall_of(4)
        self.refused(hall, NoGuest, "go", 5, guest=5)
        hall.go(4)
        self.refused(hall, NoGuest, "go", 4, guest=4)

    def test_masked(self):
        hall = hall_of(1, 2, 3)
        hall.exchange(1, 2)
        self.refused(hall, Masked, "go", 1)
        self.refused(hall, Masked, "go", 2)
        self.assertIsNone(hall.go(3))

    def test_no_guest_ahead_of_masked(self):
        # 2 danced in wrong masks, came home and went: they are asked for as one who is not in.
        hall = hall_of(1, 2, 3)
        hall.exchange(1, 2)
        hall.exchange(1, 3)
        hall.exchange(2, 3)
        self.assertEqual([hall.wears(g) for g in (1, 2, 3)], [3, 2, 1])
        hall.go(2)
        self.refused(hall, NoGuest, "go", 2, guest=2)
        self.refused(hall, Masked, "go", 1)

    def test_coming_again(self):
        hall = hall_of(7, 8)
        hall.go(7)
        self.assertIsNone(hall.come(7))
        self.assertEqual(hall.wears(7), 7)
        self.assertEqual(hall.story(), [("come", 7), ("come", 8), ("go", 7), ("come", 7)])
        self.refused(hall, AlreadyIn, "come", 7)

    def test_a_refused_going_is_judged_anew(self):
        hall = hall_of(1, 2, 3, 4)
        hall.exchange(1, 2)
        self.refused(hall, Masked, "go", 1)
        for one, other in ((3, 4), (1, 3), (2, 4), (1, 4), (2, 3)):
            hall.exchange(one, other)
        self.assertEqual([hall.wears(g) for g in (1, 2, 3, 4)], [1, 2, 3, 4])
        self.assertIsNone(hall.go(1))
        self.assertEqual(hall.guests(), [2, 3, 4])


class TestExchange(HallCase):

    def test_the_masks_change_places(self):
        hall = hall_of(1, 2, 3)
        self.assertIsNone(hall.exchange(1, 2))
        self.assertEqual([hall.wears(g) for g in (1, 2, 3)], [2, 1, 3])
        hall.exchange(3, 1)
        self.assertEqual([hall.wears(g) for g in (1, 2, 3)], [3, 1, 2])
        self.assertEqual([hall.wearer(m) for m in (1, 2, 3)], [2, 3, 1])

    def test_no_guest_tells_the_first_of_the_two_who_is_not_in(self):
        hall = hall_of(1, 2)
        self.refused(hall, NoGuest, "exchange", 5, 1, guest=5)
        self.refused(hall, NoGuest, "exchange", 1, 5, guest=5)
        self.refused(hall, NoGuest, "exchange", 6, 5, guest=6)
        self.refused(hall, NoGuest, "exchange", 5, 6, guest=5)

    def test_no_guest_ahead_of_same(self):
        hall = hall_of(1)
        self.refused(hall, NoGuest, "exchange", 5, 5, guest=5)

    def test_no_guest_ahead_of_met(self):
        hall = hall_of(1, 2, 3, 4)
        for one, other in ((1, 2), (3, 4), (1, 3), (2, 4), (1, 4), (2, 3)):
            hall.exchange(one, other)
        hall.go(2)
        self.refused(hall, NoGuest, "exchange", 1, 2, guest=2)
        self.refused(hall, NoGuest, "exchange", 2, 1, guest=2)
        hall.go(1)
        self.refused(hall, NoGuest, "exchange", 1, 2, guest=1)
        self.refused(hall, NoGuest, "exchange", 2, 1, guest=2)

    def test_same(self):
        hall = hall_of(0, 2)
        self.refused(hall, Same, "exchange", 0, 0)
        hall.exchange(0, 2)
        self.refused(hall, Same, "exchange", 2, 2)

    def test_met_in_either_order(self):
        hall = hall_of(1, 2, 3)
        hall.exchange(2, 1)
        self.refused(hall, Met, "exchange", 2, 1)
        self.refused(hall, Met, "exchange", 1, 2)
        hall.exchange(2, 3)
        self.refused(hall, Met, "exchange", 1, 2)

    def test_met_from_an_earlier_visit(self):
        for leaving in ((1,), (2,), (1, 2), (2, 1)):
            hall = hall_of(1, 2, 3, 4)
            for one, other in ((1, 2), (3, 4), (1, 3), (2, 4), (1, 4), (2, 3)):
                hall.exchange(one, other)
            for guest in leaving:
                hall.go(guest)
            for guest in leaving:
                hall.come(guest)
            self.refused(hall, Met, "exchange", 1, 2)
            self.refused(hall, Met, "exchange", 2, 1)

    def test_a_refused_exchange_is_judged_anew(self):
        hall = hall_of(1)
        self.refused(hall, NoGuest, "exchange", 1, 2, guest=2)
        self.assertIs(hall.met(1, 2), False)
        hall.come(2)
        self.assertIsNone(hall.exchange(1, 2))


class TestWhoMet(HallCase):

    def hall(self):
        """1 to 4 have all met; 2 and 4 are gone; 5 and TOP have met; 0 met nobody."""
        hall = hall_of(4, 3, 2, 1, 0)
        for one, other in ((4, 3), (2, 1), (4, 2), (3, 1), (4, 1), (3, 2)):
            hall.exchange(one, other)
        hall.go(2)
        hall.go(4)
        hall.come(TOP)
        hall.come(5)
        hall.exchange(TOP, 5)
        return hall

    def test_met(self):
        hall = self.hall()
        for one, other in ((1, 3), (1, 2), (2, 4), (5, TOP)):
            self.assertIs(hall.met(one, other), True)
            self.assertIs(hall.met(other, one), True)
        for one, other in ((0, 1), (1, 5), (2, TOP), (50, 51), (1, 50)):
            self.assertIs(hall.met(one, other), False)
            self.assertIs(hall.met(other, one), False)

    def test_nobody_met_oneself(self):
        hall = self.hall()
        for guest in ASKED:
            self.assertIs(hall.met(guest, guest), False)

    def test_partners(self):
        hall = self.hall()
        self.assertEqual(hall.partners(1), [2, 3, 4])
        self.assertEqual(hall.partners(2), [1, 3, 4])
        self.assertEqual(hall.partners(5), [TOP])
        self.assertEqual(hall.partners(0), [])
        self.assertEqual(hall.partners(50), [])

    def test_pairs(self):
        hall = self.hall()
        self.assertEqual(hall.pairs(), [(1, 2), (1, 3), (1, 4), (2, 3), (2, 4), (3, 4), (5, TOP)])

    def test_they_outlast_a_new_coming(self):
        hall = self.hall()
        before = hall.pairs()
        hall.come(2)
        self.assertEqual(hall.partners(2), [1, 3, 4])
        self.assertEqual(hall.pairs(), before)


class TestStory(HallCase):

    def test_the_two_stand_as_they_were_told(self):
        hall = hall_of(2, 1, 0)
        hall.exchange(2, 1)
        hall.exchange(0, 1)
        self.assertEqual(
            hall.story(),
            [("come", 2), ("come", 1), ("come", 0), ("exchange", 2, 1), ("exchange", 0, 1)],
        )
        self.assertEqual(hall.moment(), 5)

    def test_a_refused_deed_is_no_moment(self):
        hall = hall_of(2, 1)
        for deed, args in (("come", (1,)), ("go", (9,)), ("exchange", (1, 1)), ("exchange", (1, 9))):
            with self.assertRaises(WaltzError):
                getattr(hall, deed)(*args)
        self.assertEqual(hall.moment(), 2)
        hall.go(2)
        self.assertEqual(hall.moment(), 3)
        self.assertEqual(hall.story(), [("come", 2), ("come", 1), ("go", 2)])

    def test_asking_is_no_deed(self):
        hall = hall_of(2, 1)
        seen(hall)
        hall.twin()
        self.assertEqual(hall.moment(), 2)


class TestToldIsTheAskersOwn(HallCase):

    def test_lists_changed_by_the_asker_change_nothing(self):
        hall = hall_of(1, 2, 3)
        hall.exchange(2, 1)
        before = seen(hall)
        for told in (hall.guests(), hall.partners(1), hall.partners(50), hall.pairs(), hall.story()):
            told.reverse()
            told.append("else")
            self.assertEqual(seen(hall), before)
            told.clear()
            self.assertEqual(seen(hall), before)

    def test_no_later_deed_changes_what_was_told(self):
        hall = hall_of(1, 2, 3)
        hall.exchange(2, 1)
        told = [hall.guests(), hall.partners(1), hall.partners(50), hall.pairs(), hall.story()]
        kept = [list(one) for one in told]
        hall.come(50)
        hall.exchange(1, 50)
        hall.go(3)
        self.assertEqual(told, kept)


class TestTwin(HallCase):

    def hall(self):
        hall = hall_of(1, 2, 3, 4)
        hall.exchange(2, 1)
        hall.exchange(1, 3)
        hall.go(4)
        return hall

    def test_alike_in_all_that_can_be_asked(self):
        for hall in (Hall(), hall_of(0), self.hall()):
            twin = hall.twin()
            self.assertIs(type(twin), Hall)
            self.assertIsNot(twin, hall)
            self.assertEqual(seen(twin), seen(hall))

    def later_deeds(self, hall):
        hall.come(4)
        hall.exchange(3, 2)
        hall.exchange(4, 2)
        hall.come(50)
        hall.go(50)

    def test_the_twin_stays_behind(self):
        hall = self.hall()
        twin = hall.twin()
        before = seen(twin)
        self.later_deeds(hall)
        self.assertEqual(seen(twin), before)

    def test_the_hall_stays_behind(self):
        hall = self.hall()
        twin = hall.twin()
        before = seen(hall)
        self.later_deeds(twin)
        self.assertEqual(seen(hall), before)

    def test_both_refuse_alike(self):
        twin = self.hall().twin()
        self.refused(twin, Met, "exchange", 1, 2)
        self.refused(twin, Masked, "go", 1)
        self.refused(twin, NoGuest, "go", 4, guest=4)
        self.refused(twin, AlreadyIn, "come", 3)

    def test_a_twin_of_a_twin(self):
        hall = self.hall()
        first = hall.twin()
        second = first.twin()
        before = seen(hall)
        self.later_deeds(second)
        self.assertEqual(seen(first), before)
        self.later_deeds(first)
        self.assertEqual(seen(first), seen(second))
        self.assertEqual(seen(hall), before)


class TestManyEvenings(HallCase):

    def random_deed(self, chance, guests):
        word = chance.choice(("come", "go", "exchange", "exchange"))
        return (word,) + tuple(chance.choice(guests) for k in range(2 if word == "exchange" else 1))

    def test_against_the_plain_reading(self):
        guests = (0, 1, 2, 5, 6, TOP)
        for seed in range(40):
            chance = random.Random(seed)
            hall, plain = Hall(), PlainHall()
            for step in range(60):
                deed = self.random_deed(chance, guests)
                self.assertEqual(answer(getattr(hall, deed[0]), *deed[1:]), plain.judge(deed))
                if step == 30:
                    hall = hall.twin()
                if step % 5 == 0:
                    self.assertEqual(seen(hall), plain.seen(ASKED))
            self.assertEqual(seen(hall), plain.seen(ASKED))


if __name__ == "__main__":
    unittest.main()
