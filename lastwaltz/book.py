"""The book of an evening: its story in lines, a line for each deed."""

from lastwaltz.errors import NoText
from lastwaltz.hall import Hall
from lastwaltz.letters import read_number
from lastwaltz.past import do_deed

# How many words the line of each deed has.
DEED_SIZES = {"come": 2, "go": 2, "exchange": 3}


def read_line(line):
    """The line's first word and the numbers behind it, or None where one of these is none."""
    words = line.split(" ")
    numbers = [read_number(word) for word in words[1:]]
    if None in numbers:
        return None
    return (words[0],) + tuple(numbers)


def written(hall):
    """The hall's story as a text."""
    lines = [" ".join([str(part) for part in deed]) for deed in hall.story()]
    return "".join([line + "\n" for line in lines])


def opened(text):
    """A new hall in which the deeds of the text were done."""
    hall = Hall()
    lines = text.split("\n")
    for place, line in enumerate(lines[:-1], start=1):
        deed = read_line(line)
        if deed is None or DEED_SIZES.get(deed[0]) != len(deed):
            raise NoText(place)
        do_deed(hall, deed)
    # What stands behind the last line feed is a line without one.
    if lines[-1] != "":
        raise NoText(len(lines))
    return hall
