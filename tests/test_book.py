"""The book of an evening, point 25, with 5 and 6."""

import inspect
import random
import re
import unittest

from dances import NUMBER, spoilt
from evenings import (
    TOP, drawn_halls, drawn_layout, drawn_numbers, either_way, free_pairs, hall_of, judged, seen, strangers, try_deed,
)
from lastwaltz import book
from lastwaltz.book import opened, written
from lastwaltz.errors import AlreadyIn, Masked, Met, NoGuest, NoText, Same, WaltzError
from lastwaltz.hall import Hall

LINE = re.compile(f"(?:(come|go) ({NUMBER})|(exchange) ({NUMBER}) ({NUMBER}))\n")


def judged_text(text):
    """The story of the hall that is told, or the refusal's class with its guest and place."""
    try:
        return opened(text).story()
    except WaltzError as refusal:
        return (type(refusal), getattr(refusal, "guest", None), getattr(refusal, "place", None))


def plain_judged(text):
    """The same by the words of the document: line by line, each with its line feed."""
    hall = Hall()
    for place, line in enumerate(re.findall(r"[^\n]*\n|[^\n]+", text), 1):
        found = LINE.fullmatch(line)
        if found is None:
            return (NoText, None, place)
        word, *guests = [part for part in found.groups() if part is not None]
        refusal = judged(getattr(hall, word), *[int(guest) for guest in guests])
        if refusal is not None:
            return refusal + (None,)
    return hall.story()


def sample_halls():
    return [Hall(), hall_of(0), hall_of(TOP, 0)] + [drawn_layout(seed) for seed in range(40)] + drawn_halls()


class BookCase(unittest.TestCase):

    def check_text(self, text):
        answer = judged_text(text)
        self.assertEqual(answer, plain_judged(text), repr(text))
        return answer

    def refused(self, text, kind, guest=None, place=None):
        for attempt in range(2):
            self.assertEqual(judged_text(text), (kind, guest, place), repr(text))
        self.check_text(text)


class TestInterface(unittest.TestCase):

    def test_names_and_arguments(self):
        self.assertEqual(list(inspect.signature(book.written).parameters), ["hall"])
        self.assertEqual(list(inspect.signature(book.opened).parameters), ["text"])


class TestWritten(BookCase):

    def test_by_hand(self):
        self.assertEqual(written(Hall()), "")
        hall = hall_of(3, 0, TOP)
        hall.exchange(TOP, 3)
        hall.go(0)
        self.assertEqual(written(hall), "come 3\ncome 0\ncome 999999999999\nexchange 999999999999 3\ngo 0\n")

    def test_refused_deeds_are_not_written(self):
        hall = hall_of(1, 2)
        for deed in (("come", 1), ("go", 7), ("exchange", 1, 1), ("exchange", 1, 9)):
            try_deed(hall, deed)
        self.assertEqual(written(hall), "come 1\ncome 2\n")

    def test_written_and_read(self):
        for hall in sample_halls():
            before = seen(hall)
            text = written(hall)
            again = opened(text)
            self.assertIs(type(again), Hall)
            self.assertEqual(seen(again), before)
            self.assertEqual(seen(hall), before)
            self.assertEqual(written(again), text)
            self.assertEqual(self.check_text(text), hall.story())

    def test_both_go_on_alike(self):
        for seed, hall in enumerate(sample_halls()):
            chance = random.Random(seed)
            again = opened(written(hall))
            numbers = hall.guests() + strangers(hall, 3) + drawn_numbers(chance, 3)[:3]
            for k in range(15):
                word = chance.choice(("come", "go", "exchange", "exchange"))
                guests = tuple(chance.choice(numbers) for k in range(2 if word == "exchange" else 1))
                if word == "exchange" and free_pairs(hall) and chance.random() < 0.7:
                    guests = either_way(chance, chance.choice(free_pairs(hall)))
                self.assertEqual(judged(getattr(again, word), *guests), judged(getattr(hall, word), *guests))
                self.assertEqual(seen(again), seen(hall))
            self.assertEqual(written(again), written(hall))
            self.assertEqual(seen(opened(written(again))), seen(hall))

    def test_each_by_its_own_deeds_alone(self):
        hall = hall_of(1, 2, 3)
        hall.exchange(1, 2)
        text = written(hall)
        again = opened(text)
        kept = seen(again)
        hall.exchange(2, 3)
        hall.come(9)
        self.assertEqual(seen(again), kept)
        kept = seen(hall)
        again.exchange(3, 1)
        again.come(8)
        self.assertEqual(seen(hall), kept)
        self.assertEqual(written(opened(text)), text)


class TestRefused(BookCase):

    def test_nothing_and_an_empty_line(self):
        self.assertEqual(seen(opened("")), seen(Hall()))
        self.refused("\n", NoText, place=1)
        self.refused("\n\n", NoText, place=1)
        self.refused("come 1\n\n", NoText, place=2)
        self.refused("\ncome 1\n", NoText, place=1)
        self.refused("come 1\n\ncome 2\n", NoText, place=2)

    def test_no_line_feed_behind_the_last(self):
        self.refused("come 1", NoText, place=1)
        self.refused("come 1\ncome 2", NoText, place=2)
        self.refused("come 1\ncome 2\nx", NoText, place=3)
        self.refused("come 1\n ", NoText, place=2)
        self.refused("come 1\ncome 1", NoText, place=2)

    def test_lines_that_are_not_so_written_at_each_place(self):
        good = ["come 1", "come 2", "exchange 1 2", "come 3", "exchange 3 1", "come 4", "go 4"]
        bad = (
            "", " ", "come", "go", "exchange", "come ", "come  5", " come 5", "come 5 ", "come 5 6", "come 05",
            "come 00", "come -5", "come +5",
            "come 1000000000000", "come 9999999999999", "come " + "9" * 5000, "come five", "come 5.", "come 1e1",
            "come 1_0", "Come 5", "COME 5",
            "comes 5", "come5", "come\t5", "go 05", "go 4 4", "go  4", "exchange 1", "exchange 1 2 3", "exchange  1 2",
            "exchange 1  2",
            "exchange 1 2 ", "exchange 01 2", "exchange 1 02", "exchange 1 1000000000000", "exchange 1,2", "5",
            "5 come", "exchange (1 2)",
            "dance (pair 1 2)", "step", "state", "plan 1 2", "come 5;go 5", "come\u00a05", "come \u0665",
        )
        for place in range(len(good) + 1):
            for line in bad:
                text = "".join(one + "\n" for one in good[:place] + [line] + good[place:])
                self.refused(text, NoText, place=place + 1)

    def test_lines_that_the_hall_refuses(self):
        start = "come 1\ncome 2\ncome 3\nexchange 1 2\n"
        for line, kind, guest in (
            ("come 1", AlreadyIn, None), ("go 9", NoGuest, 9), ("go 1", Masked, None), ("exchange 1 2", Met, None),
            ("exchange 2 1", Met, None),
            ("exchange 3 3", Same, None), ("exchange 8 9", NoGuest, 8), ("exchange 9 8", NoGuest, 9),
            ("exchange 1 9", NoGuest, 9),
            ("exchange 9 9", NoGuest, 9), ("go 0", NoGuest, 0), ("go 999999999999", NoGuest, TOP),
        ):
            self.refused(f"{start}{line}\n", kind, guest)
            self.refused(f"{start}{line}\ncome 4\n", kind, guest)

    def test_the_first_bad_line_is_told(self):
        self.refused("come 1\ncome 1\ncome x\n", AlreadyIn)
        self.refused("come 1\ncome x\ncome 1\n", NoText, place=2)
        self.refused("go 3\ncome 1", NoGuest, guest=3)
        self.refused("come x\ngo 3\n", NoText, place=1)
        self.refused("come 1\ngo 2\n\n", NoGuest, guest=2)

    def test_long_texts(self):
        lines = [f"come {k}\n" for k in range(3000)]
        self.assertEqual(opened("".join(lines)).moment(), 3000)
        self.refused("".join(lines) + "come", NoText, place=3001)
        self.refused("".join(lines[:2999]) + "go 01\n" + lines[2999], NoText, place=3000)

    def test_spoilt_at_every_place(self):
        kinds = set()
        for text in ("come 1\ncome 12\nexchange 12 1\ncome 3\ngo 3\n", "come 0\ngo 0\ncome 0\n",
            written(drawn_layout(3))[:150], "come 999999999999\n"):
            for other in spoilt(text, " \n019a"):
                answer = self.check_text(other)
                kinds.add(answer[0] if isinstance(answer, tuple) else None)
        self.assertLessEqual({None, NoText, NoGuest, AlreadyIn, Same}, kinds)

    def test_drawn_evenings_with_a_bad_line(self):
        for seed, hall in enumerate(drawn_halls(1)[2:]):
            chance = random.Random(seed)
            lines = written(hall).splitlines(keepends=True)
            for k in range(6):
                at = chance.randint(0, len(lines))
                line = chance.choice((chance.choice(lines), "come 1x\n", "go 77777\n", "exchange 1 1\n", "", "\n",
                    "come 7"))
                self.check_text("".join(lines[:at] + [line] + lines[at + chance.randint(0, 1):]))


if __name__ == "__main__":
    unittest.main()
