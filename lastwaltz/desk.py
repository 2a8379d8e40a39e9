"""The desk of an evening: takes a line and answers by a line."""

from lastwaltz.book import read_line
from lastwaltz.errors import (
    AlreadyIn, BadName, Masked, Met, NoFigure, NoGuest, NoPlan, NotNew, NoText, NoWay, Same, Taken, TooLong, Unknown,
)
from lastwaltz.figures import FigureBook
from lastwaltz.hall import Hall
from lastwaltz.homeway import home_row
from lastwaltz.keeper import Keeper
from lastwaltz.letters import read_figure
from lastwaltz.past import do_deed
from lastwaltz.rings import rings_of

# How many words each line has whose words behind the first are numbers.
LINE_SIZES = {"come": 2, "go": 2, "exchange": 3, "plan": 3, "step": 1, "state": 1, "wears": 2, "rings": 1}


def rings_line(hall):
    """The rings as a line."""
    rings = [" ".join([str(guest) for guest in ring]) for ring in rings_of(hall)]
    if rings == []:
        return "none"
    return ", ".join(rings)


class Evening:
    """An evening with an empty hall, no plan and no names."""

    def __init__(self):
        self.hall = Hall()
        self.keeper = Keeper(self.hall)
        self.book = FigureBook()

    def say(self, line):
        """The answer to a line."""
        try:
            return self.answer(line)
        except AlreadyIn:
            return "no: AlreadyIn"
        except Masked:
            return "no: Masked"
        except Same:
            return "no: Same"
        except Met:
            return "no: Met"
        except NotNew:
            return "no: NotNew"
        except NoWay:
            return "no: NoWay"
        except NoPlan:
            return "no: NoPlan"
        except BadName:
            return "no: BadName"
        except Taken:
            return "no: Taken"
        except Unknown:
            return "no: Unknown"
        except TooLong:
            return "no: TooLong"
        except NoFigure:
            return "no: NoFigure"
        except NoGuest:
            return "no: NoGuest"
        except NoText:
            return "no: NoText"

    def answer(self, line):
        """The answer to a line, or its refusal."""
        first, blank, rest = line.partition(" ")
        if first == "dance" and blank == " ":
            return self.dance_line(rest)
        if first == "name" and " " in rest:
            return self.name_line(rest)
        words = read_line(line)
        if words is None or LINE_SIZES.get(words[0]) != len(words):
            raise NoText(1)
        return self.number_line(words)

    def dance_line(self, text):
        """Dance the written figure."""
        row = self.book.spread(read_figure(text))
        self.keeper.dance(row)
        return f"danced {len(row)}"

    def name_line(self, rest):
        """Give the name that stands ahead of the blank to the figure behind it."""
        word, blank, text = rest.partition(" ")
        self.book.define(word, read_figure(text))
        return "done"

    def number_line(self, words):
        """Do, or tell, what a line of a word and of numbers asks."""
        if words[0] == "plan":
            return self.plan_line(words[1], words[2])
        if words[0] == "step":
            one, other = self.keeper.step()
            return f"exchange {one} {other}"
        if words[0] == "state":
            return f"{self.keeper.state()} {self.keeper.left()}"
        if words[0] == "wears":
            return str(self.hall.wears(words[1]))
        if words[0] == "rings":
            return rings_line(self.hall)
        do_deed(self.keeper, words)
        return "done"

    def plan_line(self, one, other):
        """Let the keeper take the mixed row with these two newcomers."""
        row = home_row(self.hall, one, other)
        self.keeper.stand(row)
        return f"plan {len(row)}"
