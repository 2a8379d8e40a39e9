"""The keeper, points 17 and 18, with 2, 6 and 10."""

import inspect
import random
import unittest

from evenings import (
    TOP, drawn_halls, drawn_layout, either_way, free_pairs, hall_of, judged, laid_out, met_inside, plain_sends_home,
    plan_reckoned, seen, strangers, ways_home, with_newcomers,
)
from lastwaltz.errors import AlreadyIn, Masked, Met, NoGuest, NoPlan, NoWay, Same
from lastwaltz.hall import Hall
from lastwaltz.homeway import home_row, hub_row, two_row
from lastwaltz.keeper import Keeper
from lastwaltz.rows import quadrille


class Watch:
    """A keeper held against a plain reckoning: what became of the plan is read from the story alone."""

    def __init__(self, case, hall):
        self.case = case
        self.hall = hall
        self.keeper = Keeper(hall)
        self.plan = None
        self.since = 0
        self.check()

    def reckoned(self):
        return plan_reckoned(self.plan, self.since, self.hall.story())

    def check(self):
        state, left, broken_at = self.reckoned()
        told = (self.keeper.state(), self.keeper.left(), self.keeper.due(), self.keeper.broken_at())
        self.case.assertEqual(told, (state, len(left), left[0] if left else None, broken_at))

    def stand(self, row):
        """The row is handed in as a plan, and changed by its owner later."""
        handed = list(row)
        before = seen(self.hall)
        home = plain_sends_home(self.hall, row)
        self.case.assertEqual(judged(self.keeper.stand, handed), None if home else (NoWay, None))
        self.case.assertEqual(handed, row)
        self.case.assertEqual(seen(self.hall), before)
        if home:
            self.plan, self.since = list(row), self.hall.moment()
        handed.reverse()
        del handed[1:]
        handed.append((0, 0))
        self.check()
        return home

    def deed(self, word, *guests):
        """A deed by the keeper does and refuses what the hall's does. Gives back the refusal, or None."""
        twin = self.hall.twin()
        wished = judged(getattr(twin, word), *guests)
        self.case.assertEqual(judged(getattr(self.keeper, word), *guests), wished)
        self.case.assertEqual(seen(self.hall), seen(twin))
        self.check()
        return wished

    def step(self):
        """The step does the due exchange as the row has it, or is refused."""
        left = self.reckoned()[1]
        twin = self.hall.twin()
        if not left:
            self.case.assertEqual(judged(self.keeper.step), (NoPlan, None))
        else:
            twin.exchange(*left[0])
            pair = self.keeper.step()
            self.case.assertEqual((type(pair), pair), (tuple, left[0]))
        self.case.assertEqual(seen(self.hall), seen(twin))
        self.check()


class KeeperCase(unittest.TestCase):

    def planned(self):
        """A keeper whose plan is to send home 1 and 2, who have met, by 8 and 9; 3 and 4 stand by."""
        hall = hall_of(1, 2, 3, 4, 8, 9)
        hall.exchange(1, 2)
        watch = Watch(self, hall)
        self.assertTrue(watch.stand(home_row(hall, 8, 9)))
        self.assertEqual(watch.keeper.state(), "standing")
        return watch


class TestInterface(unittest.TestCase):

    def test_names_and_arguments(self):
        self.assertEqual(list(inspect.signature(Keeper).parameters), ["hall"])
        for name, arguments in (
            ("stand", ["row"]), ("due", []), ("step", []), ("left", []), ("state", []), ("broken_at", []),
            ("come", ["guest"]), ("go", ["guest"]), ("exchange", ["one", "other"]),
        ):
            self.assertEqual(list(inspect.signature(getattr(Keeper, name)).parameters)[1:], arguments, name)

    def test_the_very_hall_is_kept(self):
        hall = hall_of(1, 2)
        keeper = Keeper(hall)
        self.assertIsNone(keeper.come(3))
        self.assertIsNone(keeper.exchange(3, 1))
        self.assertIsNone(keeper.go(2))
        self.assertEqual(hall.story()[2:], [("come", 3), ("exchange", 3, 1), ("go", 2)])


class TestNoPlan(KeeperCase):

    def test_nothing_is_due(self):
        watch = Watch(self, hall_of(1, 2, 3))
        self.assertEqual(watch.keeper.state(), "none")
        self.assertIsNone(watch.keeper.due())
        self.assertEqual(watch.keeper.left(), 0)
        self.assertIsNone(watch.keeper.broken_at())
        watch.step()

    def test_deeds_break_nothing(self):
        watch = Watch(self, hall_of(1, 2, 3))
        for deed, refusal in (
            (("exchange", 1, 2), None), (("go", 3), None), (("come", 7), None), (("come", 7), (AlreadyIn, None)),
            (("go", 1), (Masked, None)), (("go", 3), (NoGuest, 3)), (("exchange", 2, 1), (Met, None)),
            (("exchange", 7, 7), (Same, None)), (("exchange", 5, 6), (NoGuest, 5)), (("exchange", 1, 6), (NoGuest, 6)),
        ):
            self.assertEqual(watch.deed(*deed), refusal)
            self.assertEqual(watch.keeper.state(), "none")

    def test_a_refused_plan_is_none(self):
        watch = Watch(self, hall_of(1, 2, 3))
        self.assertFalse(watch.stand([(1, 2)]))
        self.assertFalse(watch.stand([(1, 5)]))
        watch.deed("exchange", 1, 2)
        self.assertFalse(watch.stand([]))
        self.assertFalse(watch.stand([(1, 2)]))
        self.assertEqual(watch.keeper.state(), "none")

    def test_a_plan_without_pairs_is_done_at_once(self):
        for hall in (Hall(), hall_of(0, TOP)):
            watch = Watch(self, hall)
            self.assertTrue(watch.stand([]))
            self.assertEqual(watch.keeper.state(), "done")
            watch.step()
            watch.deed("come", 5)
            watch.deed("come", 6)
            watch.deed("exchange", 5, 6)
            self.assertEqual(watch.keeper.state(), "done")


class TestFollowing(KeeperCase):

    def test_by_steps(self):
        watch = self.planned()
        for pair in list(watch.plan):
            self.assertEqual(watch.keeper.due(), pair)
            watch.step()
            self.assertEqual(watch.hall.story()[-1], ("exchange",) + pair)
        self.assertEqual(watch.keeper.state(), "done")
        self.assertEqual([watch.hall.wears(guest) for guest in (1, 2, 8, 9)], [1, 2, 8, 9])
        watch.step()

    def test_by_exchanges_in_either_order(self):
        for turn in (1, -1):
            watch = self.planned()
            for pair in list(watch.plan):
                self.assertIsNone(watch.deed("exchange", *pair[::turn]))
                self.assertEqual(watch.hall.story()[-1], ("exchange",) + pair[::turn])
            self.assertEqual(watch.keeper.state(), "done")

    def test_by_both_in_turns(self):
        watch = self.planned()
        for at, pair in enumerate(list(watch.plan)):
            if at % 2:
                watch.step()
            else:
                watch.deed("exchange", *pair[::-1])
        self.assertEqual(watch.keeper.state(), "done")

    def test_what_comes_after_it_is_done_breaks_nothing(self):
        watch = self.planned()
        for pair in list(watch.plan):
            watch.step()
        for deed in (("exchange", 3, 4), ("go", 1), ("go", 8), ("come", 1), ("exchange", 1, 3), ("exchange", 1, 2)):
            watch.deed(*deed)
            self.assertEqual(watch.keeper.state(), "done")
            self.assertIsNone(watch.keeper.broken_at())

    def test_a_row_changed_later_changes_nothing(self):
        hall = laid_out([1, 2, 3], [], [[1, 2, 3]])
        keeper = Keeper(hall)
        row = hub_row(hall)
        kept = list(row)
        keeper.stand(row)
        row.clear()
        self.assertEqual((keeper.left(), keeper.due()), (2, kept[0]))
        row.append((7, 7))
        self.assertEqual([keeper.step(), keeper.step()], kept)
        self.assertEqual(keeper.state(), "done")

    def test_a_plan_with_a_quadrille(self):
        # 3 stands in three of its pairs ahead, and is needed no more once these are danced.
        hall = hall_of(3, 4, 5, 6, 7)
        watch = Watch(self, hall)
        row = quadrille(3, 4, 5, 6)
        last = max(at for at, pair in enumerate(row) if 3 in pair)
        for steps in range(len(row) + 1):
            watch = Watch(self, hall.twin())
            self.assertTrue(watch.stand(row))
            for k in range(steps):
                watch.step()
            refusal = watch.deed("go", 3)
            if refusal is None:
                self.assertEqual(watch.keeper.state() == "broken", steps <= last)
            watch.deed("go", 7)

    def test_a_guest_who_is_needed_no_more_may_go(self):
        # Two rings of their own: when the first is home, its guests stand in no pair that is left.
        hall = laid_out([1, 2, 3, 4], [], [[1, 2], [3, 4]])
        watch = Watch(self, hall)
        self.assertTrue(watch.stand([(2, 1), (3, 4)]))
        watch.step()
        self.assertIsNone(watch.deed("go", 1))
        self.assertIsNone(watch.deed("go", 2))
        self.assertEqual(watch.keeper.state(), "standing")
        watch.step()
        self.assertEqual(watch.keeper.state(), "done")


class TestBreaking(KeeperCase):

    def test_another_exchange(self):
        watch = self.planned()
        watch.step()
        watch.deed("exchange", 3, 4)
        self.assertEqual(watch.keeper.state(), "broken")
        self.assertEqual(watch.keeper.broken_at(), watch.hall.moment())

    def test_a_later_pair_of_the_plan_ahead_of_its_turn(self):
        for place in (1, 2, -1):
            watch = self.planned()
            moment = watch.hall.moment()
            watch.deed("exchange", *watch.plan[place])
            self.assertEqual(watch.keeper.broken_at(), moment + 1)

    def test_one_of_the_due_two_with_another(self):
        watch = self.planned()
        watch.deed("exchange", watch.plan[0][0], 3)
        self.assertEqual(watch.keeper.state(), "broken")

    def test_the_going_of_one_who_is_needed(self):
        for guest in (8, 9):
            watch = self.planned()
            self.assertIsNone(watch.deed("go", guest))
            self.assertEqual(watch.keeper.state(), "broken")
            self.assertEqual(watch.keeper.broken_at(), watch.hall.moment())
            watch.deed("come", guest)
            self.assertEqual(watch.keeper.state(), "broken")

    def test_it_stays_broken_and_tells_the_first_moment(self):
        watch = self.planned()
        first = watch.plan[0]
        watch.deed("exchange", 3, 4)
        moment = watch.hall.moment()
        for deed in (("exchange",) + first, ("exchange", 1, 4), ("come", 20), ("go", 20), ("go", 9)):
            watch.deed(*deed)
            self.assertEqual((watch.keeper.state(), watch.keeper.broken_at()), ("broken", moment))
            watch.step()

    def test_nothing_else_breaks_it(self):
        watch = self.planned()
        left = watch.keeper.left()
        for deed in (
            ("come", 20), ("come", 21), ("go", 20), ("go", 3), ("come", 3), ("go", 4), ("come", 1), ("go", 1),
            ("go", 77), ("exchange", 1, 2), ("exchange", 2, 1), ("exchange", 3, 3), ("exchange", 3, 99),
            ("exchange", 99, 3),
        ):
            watch.deed(*deed)
            self.assertEqual((watch.keeper.state(), watch.keeper.left()), ("standing", left))
        for pair in list(watch.plan):
            watch.step()
        self.assertEqual(watch.keeper.state(), "done")


class TestAnotherPlan(KeeperCase):

    def test_while_one_is_standing(self):
        watch = self.planned()
        watch.step()
        watch.deed("come", 20)
        watch.deed("come", 21)
        self.assertTrue(watch.stand(two_row(watch.hall, 20, 21)))
        self.assertEqual(watch.keeper.left(), len(watch.plan))

    def test_while_one_is_broken(self):
        watch = self.planned()
        watch.deed("exchange", 3, 4)
        watch.deed("come", 20)
        watch.deed("come", 21)
        self.assertTrue(watch.stand(two_row(watch.hall, 20, 21)))
        self.assertEqual((watch.keeper.state(), watch.keeper.broken_at()), ("standing", None))
        while watch.keeper.due():
            watch.step()
        self.assertTrue(watch.stand([]))

    def test_while_one_is_done(self):
        watch = self.planned()
        while watch.keeper.due():
            watch.step()
        for guest in (20, 21, 22, 23):
            watch.deed("come", guest)
        self.assertTrue(watch.stand(quadrille(20, 21, 22, 23)))
        self.assertEqual((watch.keeper.state(), watch.keeper.left()), ("standing", 6))

    def test_what_is_left_may_be_taken_anew(self):
        watch = self.planned()
        watch.step()
        self.assertTrue(watch.stand(watch.plan[1:]))
        watch.deed("exchange", 3, 4)
        self.assertFalse(watch.stand(list(watch.plan)))

    def test_a_refused_plan_leaves_the_one_that_was(self):
        bad = ([], [(1, 2)], [(3, 3)], [(3, 99)], [(3, 4)])
        watch = self.planned()
        watch.step()
        due = watch.keeper.due()
        for row in bad + (watch.plan, watch.plan[2:], watch.plan[1:] + [(3, 4)]):
            self.assertFalse(watch.stand(row))
            self.assertEqual((watch.keeper.state(), watch.keeper.due()), ("standing", due))
        watch.deed("exchange", 3, 4)
        moment = watch.hall.moment()
        for row in bad:
            self.assertFalse(watch.stand(row))
            self.assertEqual((watch.keeper.state(), watch.keeper.broken_at()), ("broken", moment))
        watch = self.planned()
        while watch.keeper.due():
            watch.step()
        for row in bad[1:]:
            self.assertFalse(watch.stand(row))
            self.assertEqual(watch.keeper.state(), "done")

    def test_two_keepers_of_two_halls(self):
        one, other = self.planned(), self.planned()
        one.step()
        other.deed("exchange", 3, 4)
        one.check()
        other.check()
        self.assertEqual((one.keeper.state(), other.keeper.state()), ("standing", "broken"))


class TestDrawnEvenings(KeeperCase):

    def fresh_way(self, chance, watch):
        """A row that sends all home, whoever makes it: by newcomers who come for it, maybe with a quadrille."""
        numbers = strangers(watch.hall, 6)
        for guest in numbers:
            watch.deed("come", guest)
        row = list(chance.choice(ways_home(watch.hall, numbers[0], numbers[1])))
        if chance.random() < 0.4:
            # The four are in their own masks, and meet nobody else in the row.
            at = chance.randint(0, len(row))
            row[at:at] = quadrille(*numbers[2:])
        return row

    def act(self, chance, watch):
        """One act of whatever sort."""
        hall, keeper = watch.hall, watch.keeper
        lot = chance.random()
        due = keeper.due()
        if lot < 0.35:
            watch.step()
        elif lot < 0.6 and due is not None:
            watch.deed("exchange", *either_way(chance, due))
        elif lot < 0.68:
            self.refused_act(chance, watch)
        elif lot < 0.76:
            watch.deed("come", chance.choice(strangers(hall, 3)))
        elif lot < 0.84:
            needed = [guest for pair in (watch.plan or []) for guest in pair]
            watch.deed("go", chance.choice([guest for guest in hall.guests() if guest not in needed] or [0]))
        elif lot < 0.88 and hall.guests():
            watch.deed("go", chance.choice(hall.guests()))
        elif lot < 0.92 and free_pairs(hall):
            watch.deed("exchange", *either_way(chance, chance.choice(free_pairs(hall))))
        elif lot < 0.96:
            row = self.fresh_way(chance, watch)
            self.assertTrue(watch.stand(row))
        elif due is not None:
            watch.stand(watch.plan)

    def refused_act(self, chance, watch):
        """Deeds that the hall refuses, whatever the plan."""
        guests = watch.hall.guests() or [0]
        stranger = strangers(watch.hall, 1)[0]
        one = chance.choice(guests)
        for deed in (("go", stranger), ("exchange", one, stranger), ("exchange", stranger, one),
            ("exchange", one, one)):
            self.assertIsNotNone(watch.deed(*deed))
        for pair in met_inside(watch.hall)[:3]:
            self.assertEqual(watch.deed("exchange", *either_way(chance, pair)), (Met, None))
        if watch.hall.guests():
            self.assertEqual(watch.deed("come", one), (AlreadyIn, None))

    def test_acts_of_all_sorts(self):
        states = set()
        for seed, hall in enumerate([drawn_layout(seed) for seed in range(60)] + drawn_halls(1)):
            chance = random.Random(seed)
            watch = Watch(self, hall)
            if chance.random() < 0.8:
                watch.stand(self.fresh_way(chance, watch))
            for k in range(25):
                self.act(chance, watch)
                states.add(watch.keeper.state())
        self.assertEqual(states, {"none", "standing", "done", "broken"})

    def test_followed_to_the_end_while_others_come_and_go(self):
        for seed, hall in enumerate(drawn_halls()):
            chance = random.Random(seed)
            one, other = strangers(hall, 2)
            watch = Watch(self, with_newcomers(hall, one, other))
            watch.stand(chance.choice(ways_home(watch.hall, one, other)))
            while watch.keeper.due() is not None:
                stranger = strangers(watch.hall, 1)[0]
                watch.deed("come", stranger)
                if chance.random() < 0.5:
                    watch.step()
                else:
                    watch.deed("exchange", *either_way(chance, watch.keeper.due()))
                watch.deed("go", stranger)
            self.assertEqual(watch.keeper.state(), "done")
            for guest in watch.hall.guests():
                self.assertIsNone(watch.deed("go", guest))


if __name__ == "__main__":
    unittest.main()
