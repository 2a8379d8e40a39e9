"""Figures: dances told as tuples, and a book that gives them names and spreads them out."""

from lastwaltz.errors import BadName, Taken, TooLong, Unknown
from lastwaltz.rows import quadrille, turned_row

KINDS = ("pair", "line", "star", "all", "quad", "row", "back", "name")
LETTERS = "abcdefghijklmnopqrstuvwxyz"
LONGEST_NAME = 12
MOST_PAIRS = 2000


def is_name(word):
    """True where the word can be a figure's name."""
    if word in KINDS or not 1 <= len(word) <= LONGEST_NAME:
        return False
    return all([sign in LETTERS for sign in word])


def inner_figures(figure):
    """The figures straight in a row or a back, like ones once; none in the other kinds."""
    if figure[0] == "back":
        return [figure[1]]
    if figure[0] != "row":
        return []
    # A row of rows of one figure, again and again, would take very long to walk through.
    unlike = []
    for inner in figure[1]:
        if inner not in unlike:
            unlike.append(inner)
    return unlike


def single_length(figure):
    """How many pairs a figure has that holds no other figure."""
    if figure[0] == "pair":
        return 1
    if figure[0] == "quad":
        return 6
    many = len(figure[1])
    if figure[0] == "all":
        return many * (many - 1) // 2
    return max(many - 1, 0)


def single_row(figure):
    """The pairs of a figure that holds no other figure."""
    if figure[0] == "pair":
        return [(figure[1], figure[2])]
    guests = figure[1]
    if figure[0] == "line":
        return list(zip(guests, guests[1:]))
    if figure[0] == "star":
        return [(guests[0], other) for other in guests[1:]]
    if figure[0] == "all":
        return [(one, other) for at, one in enumerate(guests) for other in guests[at + 1:]]
    return quadrille(guests[0], guests[1], guests[2], guests[3])


class FigureBook:
    """A book of figures, at first without names."""

    def __init__(self):
        self.figures = {}
        self.lengths = {}
        # The rows of those that are not too long: so no chain of names is gone through again.
        self.rows = {}

    def define(self, word, figure):
        """Give the name to the figure."""
        if not is_name(word):
            raise BadName("a name is of 1 to 12 small letters and no word of the figures")
        if word in self.figures:
            raise Taken(f"the name {word} is given already")
        self.check_names(figure)
        self.figures[word] = figure
        self.lengths[word] = self.length(figure)
        if self.lengths[word] <= MOST_PAIRS:
            self.rows[word] = self.row_of(figure)

    def names(self):
        """The names in the order in which they were given."""
        return list(self.figures)

    def told(self, word):
        """The figure of that name."""
        if word not in self.figures:
            raise Unknown(f"there is no figure {word}")
        return self.figures[word]

    def spread(self, figure):
        """The figure as a row."""
        self.check_names(figure)
        if self.length(figure) > MOST_PAIRS:
            raise TooLong(f"the figure has more than {MOST_PAIRS} pairs")
        return self.row_of(figure)

    def check_names(self, figure):
        """Refuse a figure that names what the book doesn't have."""
        if figure[0] == "name":
            self.told(figure[1])
        for inner in inner_figures(figure):
            self.check_names(inner)

    def length(self, figure):
        """How many pairs the figure has, without building them."""
        if figure[0] == "name":
            return self.lengths[figure[1]]
        if figure[0] == "back":
            return self.length(figure[1])
        if figure[0] == "row":
            return sum([figure[1].count(inner) * self.length(inner) for inner in inner_figures(figure)])
        return single_length(figure)

    def row_of(self, figure):
        """The pairs of a figure that is not too long."""
        if figure[0] == "name":
            return list(self.rows[figure[1]])
        if figure[0] == "back":
            return turned_row(self.row_of(figure[1]))
        if figure[0] == "row":
            row = []
            for inner in figure[1]:
                row.extend(self.row_of(inner))
            return row
        return single_row(figure)
