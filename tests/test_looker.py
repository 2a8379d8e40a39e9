"""Looking a row through and dancing it, points 10 and 24, and what points 1, 2 and 13 say of ways home."""

import inspect
import random
import unittest

from evenings import (
    TOP, Unchanged, drawn_halls, drawn_layout, either_way, free_pairs, gone_from, hall_of, judged, laid_out,
    met_inside, plain_sends_home, plain_strays, plain_trouble, seen, strangers, ways_home, with_newcomers,
)
from lastwaltz import looker
from lastwaltz.errors import Met, NoGuest, Same
from lastwaltz.hall import Hall
from lastwaltz.homeway import home_row, hub_row, one_row, two_row
from lastwaltz.looker import dance, sends_home, trouble
from lastwaltz.rows import quadrille


def plain_refusal(hall, row):
    """The class of the refusal and the guest that it tells, or None."""
    found = plain_trouble(hall, row)
    if found is None:
        return None
    place, word = found
    absent = [guest for guest in row[place] if guest not in hall.guests()]
    return {"nobody": (NoGuest, (absent + [None])[0]), "same": (Same, None), "met": (Met, None)}[word]


def drawn_row(chance, hall):
    """A row of guests in the hall, gone ones and strangers."""
    inside = hall.guests()
    outside = gone_from(hall)[:3] + strangers(hall, 2)
    row = []
    for k in range(chance.randint(0, 6)):
        crowd = inside if inside and chance.random() < 0.85 else inside + outside
        row.append((chance.choice(crowd), chance.choice(crowd)))
    return row


def good_row(chance, hall, many):
    """A row of at most so many pairs that can be danced."""
    pairs = free_pairs(hall)
    chance.shuffle(pairs)
    return [either_way(chance, pair) for pair in pairs[:many]]


def bad_pairs(chance, hall, ahead):
    """Pairs that could not be danced behind these: each sort that there is."""
    inside = hall.guests()
    stranger, other_stranger = strangers(hall, 2)
    pairs = [(stranger, other_stranger), (stranger, stranger)]
    if inside:
        one = chance.choice(inside)
        pairs.extend([(one, stranger), (stranger, one), (one, one)])
        pairs.extend([pair for guest in gone_from(hall)[:2] for pair in ((guest, one), (one, guest), (guest, guest))])
    for known in (met_inside(hall), ahead):
        if known:
            pair = chance.choice(known)
            pairs.extend([tuple(pair), tuple(pair)[::-1]])
    return pairs


def sample_halls():
    return [Hall(), hall_of(TOP), hall_of(0, TOP)] + [drawn_layout(seed) for seed in range(60)] + drawn_halls()


class LookerCase(Unchanged, unittest.TestCase):

    def check_row(self, hall, row):
        """trouble and dance of the row, against the plain reckoning. Gives back what trouble tells."""
        found = self.told(trouble, hall, row)
        self.assertEqual(found, plain_trouble(hall, row))
        if found is not None:
            self.assertEqual([type(found), type(found[0]), type(found[1])], [tuple, int, str])
        self.check_dance(hall.twin(), row)
        return found

    def check_dance(self, hall, row):
        refusal = plain_refusal(hall, row)
        handed = list(row)
        if refusal is not None:
            self.refused(refusal[0], refusal[1], dance, hall, row)
            return
        plain = hall.twin()
        for pair in row:
            plain.exchange(*pair)
        self.assertIsNone(dance(hall, row))
        self.assertEqual(row, handed)
        self.assertEqual(seen(hall), seen(plain))
        self.assertEqual(hall.story()[hall.moment() - len(row):], [("exchange",) + pair for pair in row])


class TestInterface(unittest.TestCase):

    def test_names_and_arguments(self):
        for name in ("trouble", "dance", "sends_home"):
            self.assertEqual(list(inspect.signature(getattr(looker, name)).parameters), ["hall", "row"], name)


class TestByHand(LookerCase):

    def hall(self):
        """1 and 2 have met, and so have 3 and 9, who went again; 4 and 5 are newcomers."""
        hall = hall_of(1, 2, 3, 4, 5, 9, 10, 11)
        for pair in quadrille(3, 9, 10, 11) + [(1, 2)]:
            hall.exchange(*pair)
        for guest in (9, 10, 11):
            hall.go(guest)
        return hall

    def test_nothing_to_dance(self):
        for hall in (Hall(), hall_of(3), self.hall()):
            self.assertIsNone(self.check_row(hall, []))

    def test_each_word(self):
        hall = self.hall()
        for row, found in (
            ([(4, 8)], (0, "nobody")), ([(8, 4)], (0, "nobody")), ([(8, 7)], (0, "nobody")),
            ([(8, 8)], (0, "nobody")), ([(3, 9)], (0, "nobody")), ([(9, 3)], (0, "nobody")),
            ([(9, 10)], (0, "nobody")), ([(9, 9)], (0, "nobody")),
            ([(4, 4)], (0, "same")), ([(1, 2)], (0, "met")), ([(2, 1)], (0, "met")),
            ([(4, 5), (1, 1)], (1, "same")), ([(4, 5), (5, 4)], (1, "met")), ([(4, 5), (4, 5)], (1, "met")),
            ([(4, 5), (1, 5), (2, 5), (5, 1)], (3, "met")), ([(4, 5), (1, 5), (2, 1), (5, 1)], (2, "met")),
            ([(4, 5), (1, 4), (8, 1), (1, 1), (1, 2)], (2, "nobody")), ([(1, 1), (1, 8)], (0, "same")),
        ):
            self.assertEqual(self.check_row(hall, row), found, row)

    def test_the_first_of_the_two_who_is_not_in(self):
        hall = self.hall()
        for pair, guest in (((4, 8), 8), ((8, 4), 8), ((8, 7), 8), ((7, 8), 7), ((9, 3), 9), ((10, 9), 10),
            ((7, 7), 7)):
            self.refused(NoGuest, guest, dance, hall, [(4, 5), pair])

    def test_met_on_an_earlier_visit(self):
        hall = self.hall()
        self.assertEqual(trouble(hall, [(9, 3)]), (0, "nobody"))
        hall.come(9)
        for pair in ((3, 9), (9, 3)):
            self.assertEqual(self.check_row(hall, [(4, 5), pair]), (1, "met"))

    def test_a_row_is_judged_as_of_now(self):
        hall = hall_of(1, 2)
        row = [(1, 2), (2, 3)]
        self.assertEqual(trouble(hall, row), (1, "nobody"))
        hall.come(3)
        self.assertIsNone(trouble(hall, row))
        dance(hall, row)
        self.assertEqual(trouble(hall, row), (0, "met"))
        self.refused(Met, None, dance, hall, row)

    def test_a_quadrille_leaves_the_masks(self):
        hall = hall_of(1, 2, 3, 4, 5)
        hall.exchange(1, 5)
        before = [hall.wears(guest) for guest in hall.guests()]
        self.assertIsNone(dance(hall, quadrille(4, 1, 3, 2)))
        self.assertEqual([hall.wears(guest) for guest in hall.guests()], before)
        self.refused(Met, None, dance, hall, [(1, 2)])

    def test_sends_home(self):
        hall = laid_out([1, 2, 3, 4, 5], [(4, 5)], [[1, 2, 3]])
        for row, home in (
            ([], False), ([(1, 2), (1, 3)], True), ([(2, 1), (3, 1)], True), ([(1, 3), (1, 2)], False),
            ([(1, 2)], False), ([(1, 2), (1, 3), (4, 5)], False), ([(1, 2), (1, 3), (1, 2)], False),
            ([(1, 2), (1, 3), (1, 1)], False), ([(1, 2), (1, 3), (1, 8)], False), ([(1, 2), (1, 3), (4, 1)], False),
        ):
            self.assertIs(self.told(sends_home, hall, row), home, row)

    def test_sends_home_where_there_is_no_stray(self):
        for hall in (Hall(), hall_of(7), hall_of(1, 2, 3, 4)):
            self.assertIs(self.told(sends_home, hall, []), True)
        self.assertIs(self.told(sends_home, hall, quadrille(1, 2, 3, 4)), True)
        self.assertIs(self.told(sends_home, hall, quadrille(1, 2, 3, 4)[:5]), False)
        self.assertIs(self.told(sends_home, hall, [(1, 2), (2, 1)]), False)
        self.assertIs(self.told(sends_home, Hall(), [(1, 2)]), False)


class TestDrawn(LookerCase):

    def test_drawn_rows(self):
        chance = random.Random(1)
        words = set()
        for hall in sample_halls():
            for again in range(6):
                words.add((self.check_row(hall, drawn_row(chance, hall)) or (0, None))[1])
        self.assertEqual(words, {None, "nobody", "same", "met"})

    def test_one_bad_pair_at_any_place(self):
        chance = random.Random(2)
        for hall in sample_halls():
            row = good_row(chance, hall, 4)
            self.assertIsNone(self.check_row(hall, row))
            for place in range(len(row) + 1):
                for pair in bad_pairs(chance, hall, row[:place]):
                    spoilt = row[:place] + [pair] + row[place:]
                    found = self.check_row(hall, spoilt)
                    self.assertEqual(found, (place, plain_trouble(hall, spoilt)[1]))

    def test_all_that_can_be_danced(self):
        chance = random.Random(3)
        for hall in sample_halls():
            row = good_row(chance, hall, 1000)
            self.assertIsNone(self.check_row(hall, row))
            if row:
                self.assertEqual(self.check_row(hall, row + [row[0][::-1]]), (len(row), "met"))


class TestWaysHome(LookerCase):

    def check_home(self, hall, row):
        home = self.told(sends_home, hall, row)
        self.assertIs(home, plain_sends_home(hall, row))
        return home

    def variants(self, chance, row, hall):
        """The row with a pair left out, put in, turned about, and with two neighbours exchanged."""
        for at in range(len(row)):
            yield row[:at] + row[at + 1:]
            yield row[:at] + [row[at][::-1]] + row[at + 1:]
            yield row[:at] + row[at:at + 2][::-1] + row[at + 2:]
        guests = hall.guests() + strangers(hall, 1)
        for at in range(len(row) + 1):
            yield row[:at] + [(chance.choice(guests), chance.choice(guests))] + row[at:]
        yield row + row[-1:]
        yield row[::-1]

    def test_two_newcomers_are_always_enough(self):
        for hall in sample_halls():
            one, other = strangers(hall, 2)
            ready = with_newcomers(hall, other, one)
            self.assertFalse(sends_home(ready, [(one, other)]))
            for row in ways_home(ready, one, other):
                self.assertTrue(self.check_home(ready, row))
                twin = ready.twin()
                self.assertIsNone(dance(twin, row))
                self.assertEqual(plain_strays(twin), [])

    def test_each_maker_is_among_them(self):
        hall = with_newcomers(laid_out([1, 2, 3, 4], [(1, 4)], [[1, 2, 3]]), 7, 8)
        for row in (hub_row(hall), one_row(hall, 7), two_row(hall, 7, 8), home_row(hall, 8, 7)):
            self.assertTrue(self.check_home(hall, row))

    def test_spoilt_ways_home(self):
        chance = random.Random(4)
        answers = set()
        for hall in [drawn_layout(seed) for seed in range(40)] + drawn_halls(1)[:25]:
            one, other = strangers(hall, 2)
            ready = with_newcomers(hall, one, other)
            for row in ways_home(ready, one, other):
                for variant in self.variants(chance, row, ready):
                    answers.add(self.check_home(ready, variant))
        self.assertEqual(answers, {True, False})

    def test_it_is_told_as_of_now(self):
        hall = with_newcomers(laid_out([1, 2, 3], [(1, 2)], [[1, 2]]), 8, 9)
        row = home_row(hall, 8, 9)
        self.assertIs(sends_home(hall, row), True)
        hall.exchange(8, 3)
        self.assertIs(sends_home(hall, row), False)
        past = hall.twin()
        hall.come(10)
        hall.come(11)
        again = home_row(hall, 10, 11)
        self.assertIs(sends_home(hall, again), True)
        self.assertIs(sends_home(past, again), False)

    def test_refusals_are_the_hall_s(self):
        chance = random.Random(5)
        for hall in drawn_halls(1):
            row = drawn_row(chance, hall)
            twin = hall.twin()
            answers = [judged(twin.exchange, *pair) for pair in row]
            first = ([answer for answer in answers if answer is not None] + [None])[0]
            self.assertEqual(judged(dance, hall.twin(), row), first)


if __name__ == "__main__":
    unittest.main()
