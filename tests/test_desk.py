"""The desk, points 26 and 27."""

import inspect
import random
import re
import unittest

from dances import NUMBER, drawn_figure, drawn_word, is_good_name, plain_read, plain_spread, spoilt
from evenings import (
    TOP, free_pairs, judged, masks_of, met_inside, plain_rings, plain_trouble, plan_reckoned, seen, strangers,
)
from lastwaltz.desk import Evening
from lastwaltz.hall import Hall
from lastwaltz.homeway import home_row
from lastwaltz.letters import shown
from lastwaltz.rows import quadrille

REFUSALS = {
    "AlreadyIn", "Masked", "Same", "Met", "NotNew", "NoPlan", "BadName", "Taken", "Unknown", "TooLong", "NoFigure",
    "NoGuest", "NoText",
}
LINES = re.compile(
    f"(come|go|wears) ({NUMBER})|(exchange|plan) ({NUMBER}) ({NUMBER})|(step|state|rings)"
)
WORDS = {"nobody": "NoGuest", "same": "Same", "met": "Met"}


def no(word):
    return f"no: {word}"


class PlainDesk:
    """The desk by the words of the document, over a hall of its own and the plain readings of figures and plans."""

    def __init__(self):
        self.hall = Hall()
        self.names = {}
        self.plan = None
        self.since = 0

    def reckoned(self):
        return plan_reckoned(self.plan, self.since, self.hall.story())

    def say(self, line):
        if line.startswith("dance "):
            return self.dance(line[6:])
        naming = re.match("name ([^ ]*) ", line)
        if naming:
            return self.name(naming.group(1), line[naming.end():])
        found = LINES.fullmatch(line)
        if not found:
            return no("NoText")
        word, *numbers = [part for part in found.groups() if part is not None]
        return getattr(self, "say_" + word)(*[int(number) for number in numbers])

    def dance(self, text):
        figure = plain_read(text)
        if figure is None:
            return no("NoFigure")
        row = plain_spread(figure, self.names)
        if isinstance(row, str):
            return no(row)
        trouble = plain_trouble(self.hall, row)
        if trouble is not None:
            return no(WORDS[trouble[1]])
        for pair in row:
            self.hall.exchange(*pair)
        return f"danced {len(row)}"

    def name(self, word, text):
        figure = plain_read(text)
        if figure is None:
            return no("NoFigure")
        if not is_good_name(word):
            return no("BadName")
        if word in self.names:
            return no("Taken")
        if plain_spread(figure, self.names) == "Unknown":
            return no("Unknown")
        self.names[word] = figure
        return "done"

    def deed(self, word, *guests):
        refusal = judged(getattr(self.hall, word), *guests)
        return "done" if refusal is None else no(refusal[0].__name__)

    def say_come(self, guest):
        return self.deed("come", guest)

    def say_go(self, guest):
        return self.deed("go", guest)

    def say_exchange(self, one, other):
        return self.deed("exchange", one, other)

    def say_plan(self, one, other):
        row = judged(home_row, self.hall, one, other)
        if isinstance(row, tuple):
            return no(row[0].__name__)
        self.plan, self.since = row, self.hall.moment()
        return f"plan {len(row)}"

    def say_step(self):
        left = self.reckoned()[1]
        if not left:
            return no("NoPlan")
        self.hall.exchange(*left[0])
        return f"exchange {left[0][0]} {left[0][1]}"

    def say_state(self):
        state, left, broken_at = self.reckoned()
        return f"{state} {len(left)}"

    def say_wears(self, guest):
        worn = masks_of(self.hall)
        return str(worn[guest]) if guest in worn else no("NoGuest")

    def say_rings(self):
        return ", ".join(" ".join(str(guest) for guest in ring) for ring in plain_rings(self.hall)) or "none"


class DeskCase(unittest.TestCase):

    def told(self, evening, *answers):
        """Pairs of a line and its answer."""
        for line, answer in answers:
            self.assertEqual(evening.say(line), answer, repr(line))

    def state_of(self, evening):
        """All that lies within."""
        keeper = evening.keeper
        return seen(evening.hall), keeper.state(), keeper.left(), keeper.due(), keeper.broken_at(), evening.book.names()

    def refused(self, evening, *refusals):
        """Lines that are refused, twice over, and change nothing."""
        before = self.state_of(evening)
        for line, word in refusals:
            for attempt in range(2):
                self.assertEqual(evening.say(line), no(word), repr(line))
                self.assertEqual(self.state_of(evening), before)

    def evening(self, *lines):
        evening = Evening()
        for line in lines:
            self.assertFalse(evening.say(line).startswith("no: "), line)
        return evening

    def with_guests(self, *guests):
        return self.evening(*[f"come {guest}" for guest in guests])


class TestInterface(unittest.TestCase):

    def test_names_and_arguments(self):
        self.assertEqual(list(inspect.signature(Evening).parameters), [])
        self.assertEqual(list(inspect.signature(Evening.say).parameters)[1:], ["line"])
        self.assertIs(type(Evening().say("state")), str)


class TestLines(DeskCase):

    def test_a_new_evening(self):
        self.told(Evening(), ("state", "none 0"), ("rings", "none"), ("wears 0", "no: NoGuest"), ("step", "no: NoPlan"))

    def test_deeds(self):
        evening = Evening()
        self.told(
            evening, ("come 3", "done"), ("come 0", "done"), ("come 999999999999", "done"), ("wears 3", "3"),
            ("exchange 3 999999999999", "done"), ("wears 3", "999999999999"), ("wears 999999999999", "3"),
            ("wears 0", "0"),
            ("go 0", "done"), ("wears 0", "no: NoGuest"), ("come 0", "done"), ("state", "none 0"),
        )
        self.assertEqual(evening.hall.story()[3:], [("exchange", 3, TOP), ("go", 0), ("come", 0)])

    def test_rings(self):
        evening = self.with_guests(5, 1, 2, 3, 4)
        self.told(
            evening, ("rings", "none"), ("exchange 4 5", "done"), ("rings", "4 5"), ("exchange 1 2", "done"),
            ("rings", "1 2, 4 5"), ("exchange 1 3", "done"), ("rings", "1 3 2, 4 5"), ("exchange 5 3", "done"),
        )
        self.assertEqual(evening.say("rings"), "1 3 4 5 2")

    def test_names_and_dances(self):
        evening = self.with_guests(1, 2, 3, 4, 5)
        self.told(
            evening, ("name hey (quad 1 2 3 4)", "done"), ("name ho (back hey)", "done"), ("dance hey", "danced 6"),
            ("rings", "none"), ("dance ho", "no: Met"), ("dance (pair 5 1)", "danced 1"), ("wears 5", "1"),
            ("dance (row (pair 5 2) (line 3 5 4))", "danced 3"), ("state", "none 0"),
        )
        deeds = [("exchange",) + pair for pair in quadrille(1, 2, 3, 4)]
        self.assertEqual(evening.hall.story()[5:],
            deeds + [("exchange",) + pair for pair in ((5, 1), (5, 2), (3, 5), (5, 4))])

    def test_a_dance_that_is_a_name_s(self):
        evening = self.with_guests(*range(8))
        self.told(
            evening, ("name a (line 0 1 2)", "done"), ("name b (row a (star 3 4 5) a)", "done"),
            ("name c (row a (star 3 4 5))", "done"),
            ("dance b", "no: Met"), ("rings", "none"), ("dance (back c)", "danced 4"), ("rings", "0 2 1, 3 4 5"),
        )

    def test_a_plan(self):
        evening = self.with_guests(1, 2, 3, 8, 9)
        self.told(evening, ("exchange 1 2", "done"), ("plan 8 9", "plan 5"), ("state", "standing 5"))
        for left in (4, 3, 2, 1):
            answer = evening.say("step")
            self.assertRegex(answer, "^exchange [0-9]+ [0-9]+$")
            self.assertEqual(evening.hall.story()[-1],
                ("exchange",) + tuple(int(word) for word in answer.split(" ")[1:]))
            self.told(evening, ("state", f"standing {left}"), ("come 77", "done"), ("go 77", "done"))
        self.assertTrue(evening.say("step").startswith("exchange "))
        self.told(evening, ("state", "done 0"), ("rings", "none"), ("step", "no: NoPlan"), ("go 1", "done"),
            ("state", "done 0"))

    def test_a_plan_without_pairs(self):
        evening = self.with_guests(1, 2)
        self.told(evening, ("plan 1 2", "plan 0"), ("state", "done 0"), ("step", "no: NoPlan"))

    def test_a_plan_that_breaks(self):
        for line, answer in (("exchange 3 4", "done"), ("dance (pair 4 3)", "danced 1"), ("go 8", "done"),
            ("go 9", "done")):
            evening = self.with_guests(1, 2, 3, 4, 8, 9)
            self.told(evening, ("exchange 1 2", "done"), ("plan 8 9", "plan 5"), ("exchange 2 1", "no: Met"),
                ("go 3", "done"))
            self.told(evening, ("come 3", "done"), ("state", "standing 5"), (line, answer), ("state", "broken 0"),
                ("step", "no: NoPlan"))
            self.told(evening, ("come 20", "done"), ("come 21", "done"), ("state", "broken 0"))
            self.assertTrue(evening.say("plan 20 21").startswith("plan "))
            self.assertTrue(evening.say("state").startswith("standing "))

    def planned(self):
        """An evening with a standing plan, and the plan."""
        evening = self.with_guests(1, 2, 3, 4, 8, 9)
        self.told(evening, ("exchange 1 2", "done"), ("plan 8 9", "plan 5"))
        return evening, home_row(evening.hall, 8, 9)

    def test_exchanges_and_dances_are_steps(self):
        for turn in (1, -1):
            evening, row = self.planned()
            pairs = [pair[::turn] for pair in row]
            self.told(evening, ("exchange {} {}".format(*pairs[0]), "done"), ("state", "standing 4"))
            self.told(evening, ("dance (pair {} {})".format(*pairs[1]), "danced 1"), ("state", "standing 3"))
            text = " ".join("(pair {} {})".format(*pair) for pair in pairs[2:])
            self.told(evening, (f"dance (row {text})", "danced 3"), ("state", "done 0"), ("rings", "none"))

    def test_a_dance_beyond_the_plan(self):
        evening, row = self.planned()
        text = " ".join("(pair {} {})".format(*pair) for pair in row + [(3, 4)])
        self.told(evening, (f"dance (row {text})", "danced 6"), ("state", "done 0"), ("rings", "3 4"))

    def test_a_dance_that_breaks_midway(self):
        evening, row = self.planned()
        text = " ".join("(pair {} {})".format(*pair) for pair in row[:2] + [(3, 4)] + row[2:])
        self.told(evening, (f"dance (row {text})", "danced 6"), ("state", "broken 0"), ("rings", "3 4"))
        self.assertEqual(evening.keeper.broken_at(), evening.hall.moment() - 3)

    def test_a_refused_dance_is_no_step(self):
        evening, row = self.planned()
        text = " ".join("(pair {} {})".format(*pair) for pair in row)
        self.refused(
            evening, (f"dance (row {text} (pair 1 2))", "Met"), (f"dance (row {text} (pair 3 77))", "NoGuest"),
            (f"dance (row {text} {text})", "Met"), (f"dance (row {text} (pair 3 3))", "Same"), ("plan 1 2", "NotNew"),
        )
        self.told(evening, ("state", "standing 5"), (f"dance (row {text})", "danced 5"))


class TestRefusals(DeskCase):

    def test_each_of_them(self):
        evening = self.with_guests(1, 2, 3, 4, 5)
        self.told(evening, ("exchange 1 2", "done"), ("name hey (pair 3 4)", "done"),
            ("name long (row (all " + " ".join(
            str(k) for k in range(60)) + ") (line 1 2) (all " + " ".join(str(k) for k in range(60)) + "))", "done"))
        self.refused(
            evening, ("come 1", "AlreadyIn"), ("go 1", "Masked"), ("go 9", "NoGuest"), ("exchange 1 9", "NoGuest"),
            ("exchange 3 3", "Same"),
            ("exchange 1 2", "Met"), ("exchange 2 1", "Met"), ("plan 9 3", "NoGuest"), ("plan 3 9", "NoGuest"),
            ("plan 3 3", "Same"),
            ("plan 1 1", "Same"), ("plan 1 3", "NotNew"), ("plan 3 2", "NotNew"), ("step", "NoPlan"),
            ("wears 9", "NoGuest"),
            ("name Hey (pair 1 2)", "BadName"), ("name pair (pair 1 2)", "BadName"),
            ("name abcdefghijklm (pair 1 2)", "BadName"),
            ("name hey (pair 1 2)", "Taken"), ("name ho ha", "Unknown"), ("name ho ho", "Unknown"),
            ("name ho (row hey ho)", "Unknown"),
            ("name ho (pair 1)", "NoFigure"), ("dance ha", "Unknown"), ("dance (row hey ha)", "Unknown"),
            ("dance long", "TooLong"),
            ("dance (row long ha)", "Unknown"), ("dance (pair 1)", "NoFigure"), ("dance (pair 9 1)", "NoGuest"),
            ("dance (pair 3 3)", "Same"),
            ("dance (pair 2 1)", "Met"), ("dance (row hey hey)", "Met"), ("dance (row hey (pair 9 9))", "NoGuest"),
            ("come", "NoText"),
        )

    def test_the_order_of_a_name_s_refusals(self):
        evening = self.evening("name hey (pair 1 2)")
        self.refused(
            evening, ("name Hey (pair 1)", "NoFigure"), ("name hey (pair 1)", "NoFigure"), ("name Hey ha", "BadName"),
            ("name hey ha", "Taken"),
            ("name  (pair 1 2)", "BadName"), ("name  (pair 1 2", "NoFigure"), ("name  ", "NoFigure"),
            ("name   ", "NoFigure"),
            ("name ho ", "NoFigure"), ("name ho  (pair 1 2)", "NoFigure"), ("name ho (pair 1 2) ", "NoFigure"),
            ("name ho ha\n", "NoFigure"),
            ("name ho\n (pair 1 2)", "BadName"), ("name \n (pair 1 2)", "BadName"),
            ("name ho (pair 1 2)\n", "NoFigure"),
            ("name ho hey ha", "NoFigure"), ("name (pair 1 2)", "NoFigure"), ("name (pair hey", "BadName"),
            ("name 1 hey", "BadName"),
        )
        self.told(evening, ("name ho (pair 1 2)", "done"))

    def test_lines_that_begin_with_dance(self):
        evening = self.with_guests(1, 2)
        self.refused(
            evening, ("dance", "NoText"), ("dance ", "NoFigure"), ("dance  ", "NoFigure"),
            ("dance  (pair 1 2)", "NoFigure"),
            ("dance (pair 1 2) ", "NoFigure"), ("dance (pair 1 2)\n", "NoFigure"), ("dance\n(pair 1 2)", "NoText"),
            (" dance (pair 1 2)", "NoText"),
            ("dance(pair 1 2)", "NoText"), ("Dance (pair 1 2)", "NoText"), ("dance 1 2", "NoFigure"),
            ("dance Hey", "NoFigure"),
            ("dance dance", "Unknown"), ("dance pair", "NoFigure"), ("dance (pair 01 2)", "NoFigure"),
            ("dances (pair 1 2)", "NoText"),
            ("dance (pair 1000000000000 2)", "NoFigure"), ("dance \n", "NoFigure"),
        )

    def test_lines_that_begin_with_name(self):
        evening = self.with_guests(1, 2)
        self.refused(
            evening, ("name", "NoText"), ("name ", "NoText"), ("name hey", "NoText"), ("name hey\n", "NoText"),
            ("name (pair", "NoText"),
            ("name\nhey (pair 1 2)", "NoText"), (" name hey (pair 1 2)", "NoText"), ("Name hey (pair 1 2)", "NoText"),
            ("names hey (pair 1 2)", "NoText"),
            ("name 1", "NoText"), ("name\n", "NoText"),
        )

    def test_lines_that_are_none(self):
        evening = self.with_guests(1, 2, 3)
        lines = (
            "", " ", "\n", "come", "come ", "come x", "come 05", "come -5", "come +5", "come 1000000000000", "come 5 6",
            "come5", "Come 5", "go", "go 01",
            "go 1 2", "exchange", "exchange 1", "exchange 1 2 3", "exchange 01 2", "exchange 1 02", "exchange 1,2",
            "plan", "plan 1", "plan 1 2 3",
            "plan 01 2", "plan 1 x", "step 1", "step 0", "steps", "Step", "state 1", "states", "wears", "wears 01",
            "wears 1 2", "wears x", "rings 1",
            "ring", "none", "done", "no: Met", "danced 6", "standing 5", "stand", "left", "1", "(pair 1 2)", "hey",
            "come " + "9" * 5000, "come 1.0",
            "come 1e0", "wears 00", "open", "quit", "come \u0661",
        )
        for line in lines:
            self.refused(evening, (line, "NoText"))

    def test_blanks_and_line_feeds(self):
        evening = self.with_guests(1, 2, 3)
        for line in ("come 5", "go 3", "exchange 1 2", "plan 1 2", "step", "state", "wears 1", "rings"):
            for spoiled in (" " + line, line + " ", "  " + line, line + "  ", line + "\n", "\n" + line,
                line + "\n" + line, line + "\t",
                            line.upper(), line.title()):
                self.refused(evening, (spoiled, "NoText"))
            if " " in line:
                for spoiled in (line.replace(" ", "  "), line.replace(" ", "\n"), line.replace(" ", "\t"),
                    line.replace(" ", "")):
                    self.refused(evening, (spoiled, "NoText"))

    def test_refused_lines_may_be_asked_again(self):
        evening = self.with_guests(1)
        self.told(
            evening, ("exchange 1 2", "no: NoGuest"), ("come 2", "done"), ("exchange 1 2", "done"),
            ("dance hey", "no: Unknown"),
            ("name hey (pair 2 3)", "done"), ("dance hey", "no: NoGuest"), ("come 3", "done"),
            ("dance hey", "danced 1"), ("dance hey", "no: Met"),
        )

    def test_just_2000_pairs(self):
        evening = self.with_guests(*range(66))
        crowd = " ".join(str(k) for k in range(60))
        # 1770 + 46 for each of five
        stars = " ".join(f"(star {hub} " + " ".join(str(k) for k in range(46)) + ")" for hub in range(60, 65))
        self.told(evening, (f"name big (row (all {crowd}) {stars})", "done"),
            ("dance (row big (pair 65 0))", "no: TooLong"))
        self.told(evening, ("rings", "none"), ("dance big", "danced 2000"), ("dance big", "no: Met"))


class TestTwoDesks(DeskCase):

    def test_they_know_nothing_of_one_another(self):
        one, other = Evening(), Evening()
        self.told(one, ("come 1", "done"), ("come 2", "done"), ("name hey (pair 1 2)", "done"),
            ("dance hey", "danced 1"))
        self.told(
            other, ("rings", "none"), ("wears 1", "no: NoGuest"), ("dance hey", "no: Unknown"), ("come 1", "done"),
            ("come 2", "done"),
            ("name hey (pair 2 1)", "done"), ("plan 1 2", "plan 0"), ("state", "done 0"),
        )
        self.told(one, ("state", "none 0"), ("rings", "1 2"))
        self.told(other, ("dance hey", "danced 1"), ("state", "done 0"))


class TestDrawn(DeskCase):

    def good_line(self, chance, plain):
        """A line that may well be done."""
        hall = plain.hall
        inside = hall.guests()
        numbers = inside + list(range(14)) + [TOP]
        lot = chance.randint(0, 13)
        if lot <= 1:
            return f"come {chance.choice(numbers)}"
        if lot == 2:
            return f"go {chance.choice(numbers)}"
        if lot == 3:
            return "exchange {} {}".format(*chance.choice(free_pairs(hall) + met_inside(hall) + [(1, 2), (3, 3)]))
        if lot == 4:
            return "step"
        if lot == 5:
            left = plain.reckoned()[1] or [(1, 2)]
            return "exchange {} {}".format(*left[0][::chance.choice((1, -1))])
        if lot == 6:
            one, other = chance.choice((strangers(hall, 2), [chance.choice(numbers), chance.choice(numbers)]))
            return f"plan {one} {other}"
        if lot == 7:
            return chance.choice(("state", "rings", f"wears {chance.choice(numbers)}"))
        if lot <= 9:
            word = chance.choice((drawn_word(chance)[:2], "hey", "ho", "Ha", "row"))
            return f"name {word} {self.figure_text(chance, plain)}"
        if lot == 10:
            left = plain.reckoned()[1][:chance.randint(1, 3)] or [(1, 2)]
            return "dance (row " + " ".join("(pair {} {})".format(*pair) for pair in left) + ")"
        if lot == 11 and free_pairs(hall):
            pairs = chance.sample(free_pairs(hall), min(3, len(free_pairs(hall))))
            return "dance (row " + " ".join("(pair {} {})".format(*pair) for pair in pairs) + ")"
        return f"dance {self.figure_text(chance, plain)}"

    def figure_text(self, chance, plain):
        inside = plain.hall.guests()
        names = tuple(plain.names) + ("nix",) * (chance.random() < 0.1)
        if len(inside) >= 4 and chance.random() < 0.6:
            kind = chance.choice(("line", "star", "all", "quad", "pair"))
            guests = chance.sample(inside, {"pair": 2, "quad": 4}.get(kind, 3))
            return f"({kind} " + " ".join(str(guest) for guest in guests) + ")"
        return shown(drawn_figure(chance, chance.randint(1, 4), names, 4))

    def newcomers_plan(self, chance, evening, plain):
        """Two come and a plan is taken with them."""
        one, other = strangers(plain.hall, 2)
        for line in (f"come {one}", f"come {other}", f"plan {one} {other}"):
            self.check_line(evening, plain, line)

    def check_line(self, evening, plain, line):
        wished = plain.say(line)
        self.assertEqual(evening.say(line), wished, repr(line))
        self.assertEqual(seen(evening.hall), seen(plain.hall))
        self.assertEqual(evening.book.names(), list(plain.names))
        state, left, broken_at = plain.reckoned()
        told = (evening.keeper.state(), evening.keeper.left(), evening.keeper.broken_at())
        self.assertEqual(told, (state, len(left), broken_at))
        return wished

    def test_lines_in_any_order(self):
        answers, states = set(), set()
        for seed in range(80):
            chance = random.Random(seed)
            evening, plain = Evening(), PlainDesk()
            for k in range(100):
                if chance.random() < 0.05:
                    self.newcomers_plan(chance, evening, plain)
                line = self.good_line(chance, plain)
                if chance.random() < 0.1:
                    line = chance.choice(list(spoilt(line, " 0x\n")))
                answer = self.check_line(evening, plain, line)
                answers.add(answer[4:] if answer.startswith("no: ") else answer.split(" ")[0])
                states.add(plain.reckoned()[0])
                for asked in ("state", "rings"):
                    self.assertEqual(evening.say(asked), plain.say(asked))
        self.assertEqual(states, {"none", "standing", "done", "broken"})
        self.assertLessEqual(REFUSALS - {"TooLong"} | {"done", "danced", "plan", "exchange"}, answers)

    def test_spoilt_lines(self):
        good = (
            "come 12", "go 1", "exchange 1 2", "exchange 10 12", "name hey (pair 1 2)", "name ho (row hey hey)",
            "dance (pair 1 2)", "dance hey",
            "plan 10 11", "step", "state", "wears 10", "rings",
        )
        for line in good:
            for other in spoilt(line, " \n01ax("):
                evening, plain = Evening(), PlainDesk()
                for start in ("come 1", "come 2", "come 3", "come 10", "come 11", "exchange 1 3", "name hey (pair 2 3)",
                    "plan 10 11"):
                    self.assertEqual(evening.say(start), plain.say(start))
                self.check_line(evening, plain, other)


if __name__ == "__main__":
    unittest.main()
