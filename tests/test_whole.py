"""The whole document over the whole program: points 1 and 2, the refusals, what is told as of now, a whole evening."""

import importlib
import inspect
import random
import unittest

from evenings import (
    TOP, drawn_halls, drawn_layout, free_pairs, hall_of, judged, laid_out, plain_sends_home, seen, spoil, strangers,
    try_deed, with_newcomers,
)
from lastwaltz import errors
from lastwaltz.book import opened, written
from lastwaltz.chase import chase_row, shut_group
from lastwaltz.desk import Evening
from lastwaltz.figures import FigureBook
from lastwaltz.hall import Hall
from lastwaltz.homeway import (
    home_many, home_row, hub_row, hubless_rings, is_new, one_row, stuck_rings, two_many, two_row,
)
from lastwaltz.keeper import Keeper
from lastwaltz.letters import read_figure, shown
from lastwaltz.looker import dance, sends_home, trouble
from lastwaltz.morning import barred_group, morning_row
from lastwaltz.past import face_walk, hall_at, mask_walk
from lastwaltz.rings import closed_around, fewest_plain, plain_row, ring_with, rings_of, strays
from lastwaltz.rows import quadrille

INTERFACE = """
    rows: moved_by(row) turned_row(row) same_effect(row,other) shortest_row(row) all_unlike(row) quadrille(a,b,c,d)
    rings: strays(hall) rings_of(hall) ring_with(hall,guest) closed_around(hall,group)
    rings: fewest_plain(hall) plain_row(hall)
    homeway: is_new(hall,guest) hubless_rings(hall) stuck_rings(hall) hub_row(hall) one_row(hall,one) two_many(hall)
    homeway: two_row(hall,one,other) home_many(hall) home_row(hall,one,other)
    chase: chase_row(hall,mask,guest) shut_group(hall,mask,guest)
    morning: morning_row(hall,terms) barred_group(hall,terms)
    looker: trouble(hall,row) dance(hall,row) sends_home(hall,row)
    past: hall_at(hall,moment) mask_walk(hall,mask) face_walk(hall,guest)
    letters: shown(figure) read_figure(text)
    book: written(hall) opened(text)
"""
CLASSES = """
    hall.Hall: come(guest) go(guest) exchange(one,other) inside(guest) guests() wears(guest) wearer(mask) met(one,other)
    hall.Hall: partners(guest) pairs() story() moment() twin()
    keeper.Keeper: stand(row) due() step() left() state() broken_at() come(guest) go(guest) exchange(one,other)
    figures.FigureBook: define(word,figure) names() told(word) spread(figure)
    desk.Evening: say(line)
"""


def listed(text):
    """The (holder, name, arguments) of a list as above."""
    for row in text.strip().splitlines():
        holder, calls = row.strip().split(": ")
        for call in calls.split(" "):
            name, arguments = call[:-1].split("(")
            yield holder, name, [word for word in arguments.split(",") if word]


def questions(hall):
    """What all modules tell of a hall."""
    guests = hall.guests()
    few = guests[:4]
    terms = list(zip(guests, guests[1:]))
    told = [
        seen(hall), strays(hall), rings_of(hall), fewest_plain(hall), plain_row(hall), hubless_rings(hall),
        stuck_rings(hall),
        judged(hub_row, hall), two_many(hall), home_many(hall), judged(morning_row, hall, terms),
        barred_group(hall, terms[1:]),
        closed_around(hall, few), trouble(hall, terms), sends_home(hall, plain_row(hall)), sends_home(hall, []),
        written(hall),
    ]
    for guest in few:
        told.extend([ring_with(hall, guest), is_new(hall, guest), mask_walk(hall, guest), face_walk(hall, guest)])
        told.extend([judged(chase_row, hall, guest, few[0]), shut_group(hall, guest, few[-1]),
            judged(one_row, hall, guest)])
        told.extend([judged(two_row, hall, guest, few[0]), judged(home_row, hall, guest, few[-1])])
    told.append(seen(hall_at(hall, hall.moment() // 2)))
    return told


def replayed(story):
    hall = Hall()
    for deed in story:
        getattr(hall, deed[0])(*deed[1:])
    return hall


class TestInterface(unittest.TestCase):

    def test_functions(self):
        for module, name, arguments in listed(INTERFACE):
            ask = getattr(importlib.import_module("lastwaltz." + module), name)
            self.assertEqual(list(inspect.signature(ask).parameters), arguments, name)

    def test_classes(self):
        for holder, name, arguments in listed(CLASSES):
            module, word = holder.split(".")
            ask = getattr(getattr(importlib.import_module("lastwaltz." + module), word), name)
            self.assertEqual(list(inspect.signature(ask).parameters)[1:], arguments, (holder, name))


class TestRefusals(unittest.TestCase):
    """Each refusal is of just the class that its point names."""

    def refused(self, name, ask, *args):
        with self.assertRaises(errors.WaltzError) as caught:
            ask(*args)
        self.assertIs(type(caught.exception), getattr(errors, name))
        self.assertEqual(type(caught.exception).__mro__[1:3], (errors.WaltzError, ValueError))
        return caught.exception

    def test_all_over_the_program(self):
        hall = hall_of(1, 2, 3, 4)
        hall.exchange(1, 2)
        keeper, book = Keeper(hall), FigureBook()
        book.define("hey", ("all", tuple(range(60))))
        for name, ask, args in (
            ("AlreadyIn", hall.come, (1,)), ("AlreadyIn", keeper.come, (1,)), ("Masked", hall.go, (1,)),
            ("Masked", keeper.go, (2,)),
            ("Same", hall.exchange, (3, 3)), ("Same", keeper.exchange, (3, 3)), ("Same", quadrille, (1, 2, 3, 1)),
            ("Same", two_row, (hall, 3, 3)), ("Same", home_row, (hall, 3, 3)),
            ("Same", dance, (hall, [(3, 4), (3, 3)])),
            ("Met", hall.exchange, (2, 1)), ("Met", keeper.exchange, (2, 1)), ("Met", dance, (hall, [(3, 4), (4, 3)])),
            ("NotNew", one_row, (hall, 1)), ("NotNew", two_row, (hall, 3, 1)), ("NotNew", home_row, (hall, 1, 3)),
            ("NoWay", hub_row, (hall,)), ("NoWay", one_row, (hall, 3)), ("NoWay", chase_row, (hall_one_met(), 1, 1)),
            ("NoWay", morning_row, (hall, [])), ("NoWay", keeper.stand, ([],)), ("NoPlan", keeper.step, ()),
            ("NoMoment", hall_at, (hall, -1)), ("NoMoment", hall_at, (hall, 6)),
            ("BadName", book.define, ("Hey", ("pair", 1, 2))),
            ("Taken", book.define, ("hey", ("pair", 1, 2))), ("Unknown", book.define, ("ho", ("name", "ho"))),
            ("Unknown", book.told, ("ho",)),
            ("Unknown", book.spread, (("name", "ho"),)),
            ("TooLong", book.spread, (("row", (("name", "hey"), ("name", "hey"))),)),
            ("NoFigure", read_figure, ("(pair 1)",)),
        ):
            self.refused(name, ask, *args)

    def test_those_with_fields(self):
        hall = hall_of(1, 2)
        keeper = Keeper(hall)
        for ask, args in (
            (hall.go, (9,)), (hall.wears, (9,)), (hall.wearer, (9,)), (hall.exchange, (1, 9)), (keeper.go, (9,)),
            (keeper.exchange, (9, 8)),
            (ring_with, (hall, 9)), (closed_around, (hall, [1, 9, 8])), (is_new, (hall, 9)), (one_row, (hall, 9)),
            (two_row, (hall, 1, 9)),
            (home_row, (hall, 9, 8)), (chase_row, (hall, 9, 8)), (chase_row, (hall, 1, 9)), (shut_group, (hall, 9, 1)),
            (dance, (hall, [(1, 2), (9, 8)])), (mask_walk, (hall, 9)), (face_walk, (hall, 9)),
            (opened, ("come 1\ngo 9\n",)),
        ):
            self.assertEqual(self.refused("NoGuest", ask, *args).guest, 9)
        self.assertEqual(self.refused("NoText", opened, "come 1\ncome 2\ngo\n").place, 3)


def hall_one_met():
    """1 and 2 alone, who have met."""
    hall = hall_of(1, 2)
    hall.exchange(1, 2)
    return hall


class TestAsOfNow(unittest.TestCase):
    """A twin, a hall read from its text and a hall of the past: each by its own deeds alone."""

    def later_deeds(self, chance, hall):
        """Some deeds more, of all sorts."""
        for k in range(6):
            crowd = hall.guests() + strangers(hall, 2)
            pairs = free_pairs(hall) or [(0, 0)]
            for deed in (("come", chance.choice(crowd)), ("exchange",) + chance.choice(pairs),
                ("go", chance.choice(crowd))):
                try_deed(hall, deed)

    def test_four_halls_of_one_story(self):
        for seed, hall in enumerate([Hall(),
            hall_of(TOP)] + [drawn_layout(seed) for seed in range(25)] + drawn_halls(1)):
            chance = random.Random(seed)
            halls = [hall, hall.twin(), opened(written(hall)), hall_at(hall, hall.moment())]
            first = questions(hall)
            for again in range(2):
                for one in halls:
                    self.later_deeds(chance, one)
                    for other in halls:
                        self.assertEqual(seen(other), seen(replayed(other.story())))
                    self.assertEqual(questions(one), questions(replayed(one.story())))
            self.assertEqual(questions(hall_at(hall, len(first[0][2]))), first)

    def test_what_was_told_stays(self):
        hall = with_newcomers(laid_out([1, 2, 3, 4, 5], [(1, 2), (4, 5)], [[1, 2], [3, 4, 5]]), 20, 21)
        told = questions(hall)
        kept = questions(hall.twin())
        self.later_deeds(random.Random(3), hall)
        self.assertEqual(told, kept)

    def test_what_is_told_is_the_asker_s_own(self):
        hall = with_newcomers(laid_out([1, 2, 3, 4, 5], [(1, 2), (4, 5)], [[1, 2], [3, 4, 5]]), 20, 21)
        kept = questions(hall)
        for ask, args in (
            (strays, ()), (rings_of, ()), (plain_row, ()), (ring_with, (1,)), (closed_around, ([1],)),
            (hubless_rings, ()), (stuck_rings, ()),
            (two_row, (20, 21)), (home_row, (20, 21)), (chase_row, (1, 5)), (morning_row, ([(1, 2), (3, 4), (4, 5)],)),
            (mask_walk, (1,)),
            (face_walk, (1,)),
        ):
            spoil(ask(hall, *args))
            self.assertEqual(questions(hall), kept)
        told = hall_at(hall, 3)
        told.come(99)
        self.assertEqual(questions(hall), kept)


class TestTwoNewcomers(unittest.TestCase):
    """Point 1: whatever was danced, two newcomers are enough."""

    def test_whatever_was_danced(self):
        for hall in drawn_halls() + [drawn_layout(seed) for seed in range(60)]:
            one, other = strangers(hall, 2)
            many = home_many(hall)
            hall.come(other)
            hall.come(one)
            row = home_row(hall, one, other)
            self.assertEqual(len(row), many)
            self.assertTrue(plain_sends_home(hall, row))
            keeper = Keeper(hall)
            keeper.stand(row)
            while keeper.due() is not None:
                keeper.step()
            for guest in hall.guests():
                keeper.go(guest)
            self.assertEqual(hall.guests(), [])
            self.assertEqual(seen(opened(written(hall))), seen(hall))


class TestWholeEvening(unittest.TestCase):

    def told(self, evening, *answers):
        for line, answer in answers:
            self.assertEqual(evening.say(line), answer, line)

    def test_from_the_first_coming_to_the_last_going(self):
        evening = Evening()
        self.told(evening, *[(f"come {guest}", "done") for guest in (7, 1, 2, 3, 4, 5, 6, 0)])
        self.told(
            evening, ("name square (quad 1 2 3 4)", "done"), ("name hey (line 4 5 6 7)", "done"),
            ("name ball (row square (back hey))", "done"),
            ("dance ball", "danced 9"), ("dance ball", "no: Met"), ("rings", "4 7 6 5"), ("wears 4", "7"),
            ("go 4", "no: Masked"),
            ("go 1", "done"), ("exchange 1 2", "no: NoGuest"), ("dance (pair 2 0)", "danced 1"),
            ("rings", "0 2, 4 7 6 5"),
            ("state", "none 0"), ("step", "no: NoPlan"), ("come 50", "done"), ("come 51", "done"),
            ("plan 50 2", "no: NotNew"),
        )
        # 0 and 2 are stuck; of 4, 5, 6 and 7 nobody is a hub, but 4 has not met 7.
        self.told(evening, ("plan 50 51", "plan 10"), ("state", "standing 10"))
        for left in range(10, 0, -1):
            self.told(evening, ("state", f"standing {left}"), (f"come {100 + left}", "done"),
                ("come 0", "no: AlreadyIn"))
            if left % 3 == 0:
                one, other = evening.keeper.due()
                self.told(evening, (f"exchange {other} {one}", "done"))
            elif left % 3 == 1:
                one, other = evening.keeper.due()
                self.told(evening, (f"dance (pair {one} {other})", "danced 1"))
            else:
                self.assertRegex(evening.say("step"), "^exchange [0-9]+ [0-9]+$")
        self.told(evening, ("state", "done 0"), ("rings", "none"), ("come 1", "done"), ("exchange 2 1", "no: Met"))
        hall = evening.hall
        for guest in hall.guests():
            self.told(evening, (f"wears {guest}", str(guest)), (f"go {guest}", "done"))
        self.told(evening, ("rings", "none"), ("state", "done 0"), ("go 0", "no: NoGuest"))
        self.assertEqual(hall.guests(), [])
        self.check_book_of(hall)

    def check_book_of(self, hall):
        """The evening written, read, and asked for what was."""
        text = written(hall)
        again = opened(text)
        self.assertEqual(seen(again), seen(hall))
        self.assertEqual(text.count("\n"), hall.moment())
        self.assertEqual(hall_at(hall, 8).guests(), list(range(8)))
        behind_ball = hall_at(again, 17)
        self.assertEqual(rings_of(behind_ball), [[4, 7, 6, 5]])
        self.assertEqual(face_walk(behind_ball, 5), [(6, 5), (16, 7), (17, 4)])
        self.assertEqual(mask_walk(behind_ball, 7), [(1, 7), (15, 6), (16, 5), (17, 4)])

    def test_the_same_by_the_modules(self):
        hall = hall_of(7, 1, 2, 3, 4, 5, 6, 0)
        keeper, book = Keeper(hall), FigureBook()
        book.define("square", read_figure("(quad 1 2 3 4)"))
        book.define("hey", read_figure("(line 4 5 6 7)"))
        ball = ("row", (("name", "square"), ("back", ("name", "hey"))))
        self.assertEqual(shown(ball), "(row square (back hey))")
        row = book.spread(ball)
        self.assertIsNone(trouble(hall, row))
        dance(hall, row)
        self.assertEqual(trouble(hall, row), (0, "met"))
        for guest in (50, 51):
            keeper.come(guest)
        self.assertEqual(home_many(hall), 5)
        keeper.stand(home_row(hall, 50, 51))
        while keeper.due():
            keeper.step()
        self.assertEqual(keeper.state(), "done")
        for guest in hall.guests():
            keeper.go(guest)
        self.assertEqual(hall.guests(), [])


if __name__ == "__main__":
    unittest.main()
