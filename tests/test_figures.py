"""Figures and the book of figures, points 21 and 22, with 2 and 4."""

import inspect
import random
import unittest

from dances import KINDS, drawn_figure, drawn_guests, drawn_word, inner_ones, nested, pairs_of, plain_spread
from evenings import TOP, judged, spoil
from lastwaltz.errors import BadName, Taken, TooLong, Unknown
from lastwaltz.figures import FigureBook
from lastwaltz.rows import quadrille

PAIR = ("pair", 1, 2)
CROWD = tuple(range(60))
BAD_NAMES = (
    "", "abcdefghijklm", "abcdefghijklmnopqrstuvwxyz", "A", "Hey", "heY", "hey1", "1", "a b", " ", " hey", "hey ",
    "hey\n", "\n", "a_b", "a-b", "(hey", "hey)", "a.b", "`", "{", "@", "[",
) + KINDS
GOOD_NAMES = ("a", "z", "hey", "abcdefghijkl", "zzzzzzzzzzzz", "pairs", "lin", "xall", "names", "quadrow", "backs")


def line_of(many):
    """A line of so many pairs."""
    return ("line", tuple(range(many + 1)))


def exactly_2000():
    # 1770 + 3 * 59 + 53
    return ("row", (("all", CROWD), line_of(59), ("star", CROWD), line_of(59), line_of(53)))


class FigureCase(unittest.TestCase):

    def refused(self, kind, ask, *args):
        for attempt in range(2):
            self.assertEqual(judged(ask, *args), (kind, None), args)

    def spread(self, book, figure):
        """The row that is told, twice over, of tuples of two; the asker's own list."""
        row = book.spread(figure)
        kept = list(row)
        self.assertIs(type(row), list)
        for pair in row:
            self.assertEqual((type(pair), len(pair)), (tuple, 2))
        spoil(row)
        self.assertEqual(book.spread(figure), kept)
        return kept

    def book_of(self, *figures):
        """A book that gives these figures names, and a plain dict of the same."""
        book, plain = FigureBook(), {}
        for word, figure in figures:
            self.assertIsNone(book.define(word, figure))
            plain[word] = figure
        return book, plain

    def check_spread(self, book, plain, figure):
        wished = plain_spread(figure, plain)
        if isinstance(wished, list):
            self.assertEqual(self.spread(book, figure), wished)
        else:
            self.refused({"Unknown": Unknown, "TooLong": TooLong}[wished], book.spread, figure)
        return wished


class TestInterface(unittest.TestCase):

    def test_names_and_arguments(self):
        self.assertEqual(list(inspect.signature(FigureBook).parameters), [])
        for name, arguments in (
            ("define", ["word", "figure"]), ("names", []), ("told", ["word"]), ("spread", ["figure"]),
        ):
            self.assertEqual(list(inspect.signature(getattr(FigureBook, name)).parameters)[1:], arguments, name)


class TestEachKind(FigureCase):

    def test_by_hand(self):
        book = FigureBook()
        for figure, row in (
            (("pair", 5, 3), [(5, 3)]), (("pair", 4, 4), [(4, 4)]), (("pair", 0, TOP), [(0, TOP)]),
            (("line", (5, 3)), [(5, 3)]), (("line", (5, 3, 4)), [(5, 3), (3, 4)]),
            (("line", (1, 1, 2, 1)), [(1, 1), (1, 2), (2, 1)]),
            (("star", (5, 3)), [(5, 3)]), (("star", (5, 3, 4, 3)), [(5, 3), (5, 4), (5, 3)]),
            (("star", (1, 1)), [(1, 1)]),
            (("all", (5, 3)), [(5, 3)]), (("all", (5, 3, 4)), [(5, 3), (5, 4), (3, 4)]),
            (("all", (9, 1, 9, 2)), [(9, 1), (9, 9), (9, 2), (1, 9), (1, 2), (9, 2)]),
            (("row", (("pair", 5, 3), ("pair", 1, 2))), [(5, 3), (1, 2)]), (("row", (PAIR,)), [(1, 2)]),
            (("row", (PAIR, PAIR)), [(1, 2), (1, 2)]),
            (("row", (PAIR, ("line", (7, 6, 5)), PAIR)), [(1, 2), (7, 6), (6, 5), (1, 2)]),
            (("back", PAIR), [(1, 2)]), (("back", ("line", (5, 3, 4))), [(3, 4), (5, 3)]),
            (("back", ("back", ("line", (5, 3, 4)))), [(5, 3), (3, 4)]),
            (("back", ("row", (PAIR, ("line", (7, 6, 5))))), [(6, 5), (7, 6), (1, 2)]),
        ):
            self.assertEqual(self.spread(book, figure), row)

    def test_a_quad_is_what_quadrille_tells(self):
        chance = random.Random(1)
        for four in [(1, 2, 3, 4), (4, 3, 2, 1),
            (0, TOP, 7, 6)] + [tuple(chance.sample(range(99), 4)) for k in range(20)]:
            self.assertEqual(self.spread(FigureBook(), ("quad", four)), quadrille(*four))
            self.assertEqual(self.spread(FigureBook(), ("back", ("quad", four))), quadrille(*four)[::-1])

    def test_two_to_sixty_guests(self):
        chance = random.Random(2)
        for many in range(2, 61):
            crowd = tuple(chance.sample(range(TOP), many))
            twice = crowd[:-1] + crowd[:1]
            for guests in (crowd, twice):
                for kind, length in (("line", many - 1), ("star", many - 1), ("all", many * (many - 1) // 2)):
                    self.assertEqual(len(self.check_spread(FigureBook(), {}, (kind, guests))), length)
                    self.check_spread(FigureBook(), {}, ("back", (kind, guests)))

    def test_rows_of_one_to_sixty(self):
        for many in range(1, 61):
            figures = tuple(("pair", k, k + 1) for k in range(many))
            self.assertEqual(self.spread(FigureBook(), ("row", figures)), [(k, k + 1) for k in range(many)])


class TestNames(FigureCase):

    def test_good_and_bad_ones(self):
        book = FigureBook()
        for word in BAD_NAMES:
            self.refused(BadName, book.define, word, PAIR)
            self.refused(Unknown, book.told, word)
            self.refused(Unknown, book.spread, ("name", word))
        self.assertEqual(book.names(), [])
        for word in GOOD_NAMES:
            self.assertIsNone(book.define(word, PAIR))
            self.assertEqual(book.told(word), PAIR)
            self.assertEqual(self.spread(book, ("name", word)), [(1, 2)])
        self.assertEqual(book.names(), list(GOOD_NAMES))

    def test_each_sign(self):
        for code in list(range(32, 127)) + [10]:
            for word in (chr(code), "ab" + chr(code), chr(code) + "ab", "a" + chr(code) + "b"):
                wished = None if chr(code) in "abcdefghijklmnopqrstuvwxyz" else (BadName, None)
                self.assertEqual(judged(FigureBook().define, word, PAIR), wished, word)

    def test_taken(self):
        book, plain = self.book_of(("hey", PAIR), ("ho", line_of(3)))
        for figure in (PAIR, line_of(4), ("name", "ho"), ("name", "hey"), ("name", "never")):
            self.refused(Taken, book.define, "hey", figure)
        self.assertEqual(book.told("hey"), PAIR)
        self.assertEqual(book.names(), ["hey", "ho"])

    def test_unknown(self):
        book, plain = self.book_of(("hey", PAIR))
        for figure in (("name", "ho"), ("name", "hoo"), ("name", "pair"), ("name", ""), ("back", ("name", "ho"))):
            self.refused(Unknown, book.define, "ho", figure)
        self.refused(Unknown, book.told, "ho")
        self.assertEqual(book.names(), ["hey"])
        self.assertIsNone(book.define("ho", ("name", "hey")))
        self.assertIsNone(book.define("hoo", ("row", (("name", "ho"), ("name", "hey")))))
        self.assertEqual(book.told("hoo"), ("row", (("name", "ho"), ("name", "hey"))))
        self.assertEqual(self.spread(book, ("name", "hoo")), [(1, 2), (1, 2)])

    def test_wherever_it_stands(self):
        book, plain = self.book_of(("hey", PAIR))
        for deep in range(1, 9):
            for figure in (
                nested(deep, ("name", "ho")), nested(deep, ("name", "ho"), ("row",)),
                nested(deep, ("name", "ho"), ("back",)),
                ("row", (PAIR, ("name", "hey"), nested(min(deep, 7), ("name", "ho")))),
                ("row", (nested(min(deep, 7), ("name", "ho")), PAIR, PAIR)),
            ):
                self.refused(Unknown, book.spread, figure)
                self.refused(Unknown, book.define, "ho", figure)

    def test_the_order_of_refusals(self):
        book, plain = self.book_of(("hey", PAIR))
        self.refused(BadName, book.define, "Hey", ("name", "never"))
        self.refused(BadName, book.define, "pair", ("name", "pair"))
        self.refused(Taken, book.define, "hey", ("name", "never"))
        self.refused(Unknown, book.define, "ho", ("name", "never"))

    def test_a_refused_one_may_be_asked_again(self):
        book = FigureBook()
        self.refused(Unknown, book.define, "ho", ("name", "hey"))
        book.define("hey", PAIR)
        self.assertIsNone(book.define("ho", ("name", "hey")))
        self.refused(Taken, book.define, "ho", ("name", "hey"))

    def test_names_in_the_order_in_which_they_were_given(self):
        words = ["z", "b", "yy", "a", "m"]
        book, plain = self.book_of(*[(word, PAIR) for word in words])
        told = book.names()
        self.assertEqual(told, words)
        spoil(told)
        self.assertEqual(book.names(), words)
        kept = book.names()
        book.define("c", PAIR)
        self.assertEqual(kept, words)

    def test_two_books(self):
        one, other = FigureBook(), FigureBook()
        one.define("hey", PAIR)
        self.refused(Unknown, other.told, "hey")
        self.refused(Unknown, other.spread, ("name", "hey"))
        self.assertIsNone(other.define("hey", line_of(2)))
        self.assertEqual((one.told("hey"), other.told("hey")), (PAIR, line_of(2)))
        self.assertEqual(one.spread(("name", "hey")), [(1, 2)])


class TestLong(FigureCase):

    def test_just_2000_and_2001(self):
        figure = exactly_2000()
        book = FigureBook()
        self.assertEqual(len(self.check_spread(book, {}, figure)), 2000)
        for more in (PAIR, line_of(1), ("back", PAIR), ("quad", (1, 2, 3, 4)), ("pair", 1, 1)):
            for longer in (("row", (figure, more)), ("row", (more, figure)), ("back", ("row", (more, figure)))):
                self.assertEqual(self.check_spread(book, {}, longer), "TooLong")

    def test_just_2000_by_each_kind(self):
        # 1770 by an all, and 230 by a figure many times and pairs behind it.
        for figure, many in (
            (PAIR, 1), (("quad", (1, 2, 3, 4)), 6), (("line", (1, 2, 3)), 2), (("star", (1, 2, 3, 4)), 3),
            (("all", (1, 2, 3, 4, 5)), 10),
            (("back", ("quad", (1, 2, 3, 4))), 6), (("row", (PAIR, PAIR, ("line", (1, 2, 3)))), 4),
        ):
            times = 50 // many
            rest = 230 - times * many
            parts = (("all", CROWD),) + (figure,) * times
            while rest:
                parts += (line_of(min(rest, 59)),)
                rest -= min(rest, 59)
            self.assertEqual(len(self.check_spread(FigureBook(), {}, ("row", parts))), 2000)
            self.assertEqual(self.check_spread(FigureBook(), {}, ("row", parts + (PAIR,))), "TooLong")

    def test_somewhat_beyond_the_bounds(self):
        # Nothing is refused for it: the same words are read of fewer or more guests, and of deeper figures.
        book = FigureBook()
        for kind in ("line", "star", "all"):
            self.assertEqual(self.spread(book, (kind, ())), [])
            self.assertEqual(self.spread(book, (kind, (7,))), [])
            for many in (61, 62):
                self.check_spread(book, {}, (kind, tuple(range(many))))
            for lone in ((), (7,)):
                self.assertEqual(len(self.spread(book, ("row", (exactly_2000(), (kind, lone))))), 2000)
        self.assertEqual(self.spread(book, ("row", ())), [])
        self.assertEqual(self.spread(book, ("row", (PAIR,) * 61)), [(1, 2)] * 61)
        for deep in (9, 10, 12):
            self.check_spread(book, {}, nested(deep, ("line", (1, 2, 3))))
        self.assertIsNone(book.define("deep", nested(9, PAIR)))

    def test_by_names(self):
        book, plain = self.book_of(("hey", exactly_2000()), ("ho", PAIR),
            ("both", ("row", (("name", "hey"), ("name", "ho")))))
        for figure, wished in (
            (("name", "hey"), list), (("back", ("name", "hey")), list), (("name", "both"), str),
            (("row", (("name", "hey"), ("name", "ho"))), str), (("row", (("name", "ho"),) * 60), list),
            (("back", ("name", "both")), str),
        ):
            self.assertIs(type(self.check_spread(book, plain, figure)), wished)
        self.assertEqual(book.names(), ["hey", "ho", "both"])
        self.assertEqual(book.told("both"), plain["both"])

    def test_alls_of_sixty(self):
        book = FigureBook()
        figure = ("all", CROWD)
        self.assertEqual(len(self.check_spread(book, {}, figure)), 1770)
        self.assertEqual(self.check_spread(book, {}, ("row", (figure, figure))), "TooLong")
        self.assertEqual(self.check_spread(book, {}, ("row", (figure,) * 60)), "TooLong")

    def test_unknown_goes_first(self):
        book, plain = self.book_of(("long", ("row", (("all", CROWD),) * 2)))
        too_long = ("row", (("name", "long"), ("row", (("all", CROWD),) * 60)))
        self.refused(TooLong, book.spread, too_long)
        for deep in range(1, 7):
            for figure in (("row", (too_long, nested(deep, ("name", "no")))),
                ("row", (nested(deep, ("name", "no")), too_long))):
                self.assertEqual(self.check_spread(book, plain, figure), "Unknown")
                self.refused(Unknown, book.define, "no", figure)

    def test_a_chain_of_twenty_names(self):
        words = [letter * 2 for letter in "abcdefghijklmnopqrst"]
        for many, known in ((60, 1), (2, 10)):
            book = FigureBook()
            figure = PAIR
            for word in words:
                self.assertIsNone(book.define(word, figure))
                figure = ("row", (("name", word),) * many)
            for at, word in enumerate(words):
                if at <= known:
                    self.assertEqual(self.spread(book, ("name", word)), [(1, 2)] * many ** at)
                else:
                    self.refused(TooLong, book.spread, ("name", word))
                    self.refused(TooLong, book.spread, ("back", ("row", (PAIR, ("name", word)))))
            self.assertEqual(len(book.names()), 20)
            self.refused(Unknown, book.spread, ("row", (("name", "tt"), ("name", "uu"))))

    def test_a_deep_chain_of_short_figures(self):
        words = [letter for letter in "abcdefghijklmnopqrst"]
        book, plain = FigureBook(), {}
        figure = ("line", (1, 2, 3))
        for word in words:
            plain[word] = nested(8, figure, ("back", "row", "back"))
            book.define(word, plain[word])
            figure = ("name", word)
        for word in words:
            self.check_spread(book, plain, ("name", word))

    def test_very_long_by_itself(self):
        # One figure sixty times in a row, and that sixty times, and so on: never walked through.
        figure = ("all", CROWD)
        for k in range(7):
            figure = ("row", (figure,) * 60)
        book = FigureBook()
        self.refused(TooLong, book.spread, figure)
        self.assertIsNone(book.define("vast", figure))
        self.refused(TooLong, book.spread, ("back", ("name", "vast")))
        self.refused(Unknown, book.spread, ("row", (figure, ("name", "ho"))))


class TestDrawn(FigureCase):

    def drawn_book(self, chance):
        book, plain = FigureBook(), {}
        for k in range(chance.randint(0, 20)):
            word = drawn_word(chance)
            if word not in plain:
                figure = drawn_figure(chance, chance.randint(1, 8), tuple(plain), chance.choice((3, 6, 60)))
                self.assertIsNone(book.define(word, figure))
                plain[word] = figure
        self.assertEqual(book.names(), list(plain))
        for word in plain:
            self.assertEqual(book.told(word), plain[word])
        return book, plain

    def test_figures_in_figures(self):
        sorts = set()
        for seed in range(150):
            chance = random.Random(seed)
            book, plain = self.drawn_book(chance)
            for k in range(6):
                names = tuple(plain) + ("nobodys",) * (k == 5)
                figure = drawn_figure(chance, chance.randint(1, 8), names, chance.choice((3, 6, 60)))
                wished = self.check_spread(book, plain, figure)
                sorts.add(wished if isinstance(wished, str) else "row")
            for word in list(plain)[-2:]:
                self.check_spread(book, plain, ("name", word))
        self.assertEqual(sorts, {"row", "Unknown", "TooLong"})

    def test_each_inner_one(self):
        for seed in range(40):
            chance = random.Random(seed)
            book, plain = self.drawn_book(chance)
            figure = drawn_figure(chance, 8, tuple(plain), 4)
            for inner in inner_ones(figure):
                self.check_spread(book, plain, inner)

    def test_back_turns_about(self):
        for seed in range(60):
            chance = random.Random(seed)
            figure = ("row", (drawn_figure(chance, 5), ("line", drawn_guests(chance))))
            row = list(pairs_of(figure, {}))
            if len(row) <= 2000:
                self.assertEqual(self.spread(FigureBook(), ("back", figure)), row[::-1])
                self.assertEqual(self.spread(FigureBook(), ("back", ("back", figure))), row)

    def test_spreading_changes_no_book(self):
        book, plain = self.book_of(("hey", line_of(4)), ("ho", ("back", ("name", "hey"))))
        row = book.spread(("name", "hey"))
        row.clear()
        book.spread(("name", "ho")).append((9, 9))
        self.refused(Unknown, book.spread, ("name", "never"))
        self.assertEqual(book.spread(("name", "hey")), [(0, 1), (1, 2), (2, 3), (3, 4)])
        self.assertEqual(book.spread(("name", "ho")), [(3, 4), (2, 3), (1, 2), (0, 1)])
        self.assertEqual(book.names(), ["hey", "ho"])


if __name__ == "__main__":
    unittest.main()
