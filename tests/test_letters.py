"""Figures in writing, point 23, with 21."""

import inspect
import random
import unittest

from dances import KINDS, deepness, drawn_figure, drawn_word, inner_ones, nested, plain_read, spoilt
from evenings import TOP, judged
from lastwaltz import letters
from lastwaltz.errors import NoFigure
from lastwaltz.letters import read_figure, shown

PAIR = ("pair", 1, 2)
SIGNS = " ()\n09a-+z_"
PRINTED = [chr(code) for code in range(32, 127) if code != 37] + ["\n"]
WRITTEN = (
    (PAIR, "(pair 1 2)"), (("pair", 0, 0), "(pair 0 0)"), (("pair", TOP, 10), "(pair 999999999999 10)"),
    (("line", (3, 1)), "(line 3 1)"), (("line", (1, 2, 3)), "(line 1 2 3)"), (("line", (1, 1)), "(line 1 1)"),
    (("star", (1, 2, 3)), "(star 1 2 3)"), (("star", (0, 0, 0)), "(star 0 0 0)"),
    (("all", (1, 2, 3)), "(all 1 2 3)"), (("all", (5, 5)), "(all 5 5)"),
    (("quad", (1, 2, 3, 4)), "(quad 1 2 3 4)"), (("quad", (0, TOP, 7, 3)), "(quad 0 999999999999 7 3)"),
    (("row", (PAIR,)), "(row (pair 1 2))"), (("row", (PAIR, PAIR)), "(row (pair 1 2) (pair 1 2))"),
    (("row", (("name", "hey"), PAIR, ("name", "ho"))), "(row hey (pair 1 2) ho)"),
    (("row", (("name", "a"),)), "(row a)"), (("back", PAIR), "(back (pair 1 2))"),
    (("back", ("name", "hey")), "(back hey)"),
    (("back", ("row", (("back", ("name", "z")),))), "(back (row (back z)))"),
    (("name", "hey"), "hey"), (("name", "a"), "a"), (("name", "abcdefghijkl"), "abcdefghijkl"),
    (("name", "pairs"), "pairs"),
)


def numbers(many):
    return " ".join(str(k) for k in range(many))


def deep_text(deep, inner="(pair 1 2)"):
    """A text so deep, of backs and rows by turns."""
    text = inner
    for k in range(deep - 1):
        text = f"(row {text})" if k % 2 else f"(back {text})"
    return text


class LettersCase(unittest.TestCase):

    def check_text(self, text):
        """What is read is a figure whose text is just that text; else it is refused."""
        wished = plain_read(text)
        if wished is None:
            self.assertEqual(judged(read_figure, text), (NoFigure, None), repr(text))
        else:
            self.assertEqual(read_figure(text), wished, repr(text))
            self.assertEqual(shown(read_figure(text)), text)
        return wished

    def check_figure(self, figure):
        """Written and read, each inner one too."""
        for one in inner_ones(figure):
            text = shown(one)
            self.assertIs(type(text), str)
            self.assertEqual(read_figure(text), one)
            self.assertEqual(plain_read(text), one)


class TestInterface(unittest.TestCase):

    def test_names_and_arguments(self):
        self.assertEqual(list(inspect.signature(letters.shown).parameters), ["figure"])
        self.assertEqual(list(inspect.signature(letters.read_figure).parameters), ["text"])


class TestWritten(LettersCase):

    def test_by_hand(self):
        for figure, text in WRITTEN:
            self.assertEqual(shown(figure), text)
            self.assertEqual(read_figure(text), figure)
            self.check_text(text)

    def test_kinds_of_what_is_read(self):
        figure = read_figure("(row (back (line 1 2 3)) hey (pair 4 5))")
        self.assertEqual([type(figure), type(figure[1]), type(figure[1][0])], [tuple] * 3)
        self.assertEqual([type(figure[1][0][1][1]), type(figure[1][0][1][1][0])], [tuple, int])
        self.assertEqual([type(figure[1][1]), type(figure[1][1][1])], [tuple, str])
        self.assertEqual([type(part) for part in figure[1][2]], [str, int, int])

    def test_drawn_figures(self):
        deepest = 0
        for seed in range(300):
            chance = random.Random(seed)
            names = tuple(drawn_word(chance) for k in range(seed % 4))
            figure = drawn_figure(chance, 1 + seed % 8, names, chance.choice((3, 60)))
            deepest = max(deepest, deepness(figure))
            self.check_figure(figure)
        self.assertEqual(deepest, 8)

    def test_two_to_sixty_guests(self):
        for many in range(2, 61):
            for kind in ("line", "star", "all"):
                self.check_figure((kind, tuple(range(many))))
                self.check_figure((kind, (TOP,) * many))

    def test_one_to_sixty_figures(self):
        for many in range(1, 61):
            self.check_figure(("row", (PAIR,) * many))
            self.check_figure(("row", (("name", "hey"),) * many))


class TestRefused(LettersCase):

    def refused(self, *texts):
        for text in texts:
            self.assertIsNone(plain_read(text), text)
            for attempt in range(2):
                self.assertEqual(judged(read_figure, text), (NoFigure, None), repr(text))

    def test_numbers(self):
        for number in (
            "01", "00", "007", "1000000000000", "9999999999999", "9" * 5000, "0999999999999", "-1", "+1", "1.", "1.0",
            "1e3",
            "1_0", "0x1", "a", "1a", "a1", "hey", "\n1", "1\n", "", "(pair 1 2)", "()", "1,", "--1", "0" * 12, "0" * 13,
        ):
            self.refused(f"(pair {number} 2)", f"(pair 2 {number})", f"(line 1 {number})", f"(line 1 2 {number})",
                         f"(star {number} 1)", f"(all 5 {number} 6)", f"(quad 1 2 {number} 4)")
        self.assertEqual(read_figure("(pair 999999999999 0)"), ("pair", TOP, 0))

    def test_other_digits(self):
        for sign in ("\u0661", "\u00b2", "\uff11"):
            self.assertEqual(judged(read_figure, f"(pair {sign} 2)"), (NoFigure, None))

    def test_blanks(self):
        self.refused(
            " (pair 1 2)", "(pair 1 2) ", "( pair 1 2)", "(pair 1 2 )", "(pair  1 2)", "(pair 1  2)", "(pair1 2)",
            "(pair 12)",
            "(row(pair 1 2))", "(row (pair 1 2)(pair 3 4))", "(row (pair 1 2)  (pair 3 4))", "(row  hey)", "(row hey )",
            "(back  hey)", "(back hey )", "(back(pair 1 2))", " hey", "hey ", " ", "", "(row heyho(pair 1 2))",
            "(row (pair 1 2)hey)",
        )

    def test_brackets(self):
        self.refused(
            "(", ")", "()", "(()", "())", "(pair 1 2", "pair 1 2)", "pair 1 2", "((pair 1 2))", "(pair 1 2))",
            "(row (pair 1 2)",
            "(row pair 1 2)", "((row hey))", "(hey)", "(row (hey))", "[pair 1 2]", "(pair (1) 2)", "(pair (1 2))", ")(",
            "(" * 5000,
            "(row " * 5000, "(back " * 2000 + "hey" + ")" * 2000, "hey)", "(hey", "(row hey))",
        )

    def test_words(self):
        self.refused(
            "(pairs 1 2)", "(Pair 1 2)", "(PAIR 1 2)", "(duo 1 2)", "(name hey)", "(name 1)", "(name)", "(1 2)",
            "(1 2 3)", "(hey 1 2)",
            "(row 1 2)", "(back 1)", "(line hey ho)", "(pair hey 1)", "(rowe hey)", "(pair\n1 2)", "(li ne 1 2)",
            "( 1 2)",
        )

    def test_names(self):
        self.refused("abcdefghijklm", "Hey", "hey1", "h-y", "hey ho", "hey\n", "\nhey", "h\ney", "1", "0", "12", "_a",
            "a`", "{")
        self.refused(*KINDS)
        self.refused(*[f"(row {word})" for word in KINDS])
        self.refused(*[f"(back {word})" for word in KINDS])
        self.refused("(row abcdefghijklm)", "(back Hey)", "(row hey h0)")

    def test_numbers_of_guests(self):
        for kind in ("line", "star", "all"):
            self.refused(f"({kind})", f"({kind} )", f"({kind} 1)", f"({kind} {numbers(61)})",
                f"({kind} {numbers(300)})")
            self.assertEqual(read_figure(f"({kind} {numbers(60)})"), (kind, tuple(range(60))))
        self.refused("(pair)", "(pair )", "(pair 1)", "(pair 1 2 3)")
        self.refused("(quad)", "(quad 1 2 3)", "(quad 1 2 3 4 5)", "(quad 1 2 3 1)", "(quad 1 1 2 3)", "(quad 4 2 2 1)",
            "(quad 0 0 0 0)")

    def test_numbers_of_figures(self):
        self.refused("(row)", "(row )", "(back)", "(back )", "(back hey ho)", "(back (pair 1 2) (pair 1 2))")
        for figure in ("hey", "(pair 1 2)"):
            self.refused("(row " + " ".join([figure] * 61) + ")")
            self.assertEqual(len(read_figure("(row " + " ".join([figure] * 60) + ")")[1]), 60)

    def test_deep_ones(self):
        for inner in ("(pair 1 2)", "hey", "(line 1 2)", "(star 1 2)", "(all 1 2)", "(quad 1 2 3 4)"):
            for deep in range(1, 9):
                self.assertEqual(deepness(read_figure(deep_text(deep, inner))), deep)
                self.assertEqual(shown(read_figure(deep_text(deep, inner))), deep_text(deep, inner))
            for deep in (9, 10, 50, 3000):
                self.refused(deep_text(deep, inner))
        self.refused(f"(row {deep_text(8)})", f"(row hey {deep_text(8)})", f"(row {deep_text(8)} hey)",
            f"(back {deep_text(8)})")
        self.check_figure(("row", (("name", "hey"), nested(7, PAIR), PAIR)))

    def test_line_feeds_and_what_stands_behind(self):
        for figure, text in WRITTEN:
            self.refused(text + "\n", "\n" + text, text + " ", text + " " + text, text + ")", text + "(", text + "()",
                text + "\n" + text)
        self.refused("(pair 1 2)x", "(pair 1 2)0", "(pair 1 2)hey", "hey(pair 1 2)", "(pair 1 2)(pair 1 2)", "\n",
            "\n\n")

    def test_each_sign_by_itself(self):
        for sign in PRINTED:
            self.check_text(sign)
            for other in " ()a0\n":
                self.check_text(sign + other)
                self.check_text(other + sign)


class TestSpoilt(LettersCase):

    def test_every_place_of_good_texts(self):
        found = {True: 0, False: 0}
        for figure, text in WRITTEN:
            for other in spoilt(text, PRINTED):
                found[self.check_text(other) is None] += 1
        self.assertTrue(found[True] > 5000 and found[False] > 500, found)

    def test_every_place_of_drawn_texts(self):
        for seed in range(60):
            chance = random.Random(seed)
            figure = drawn_figure(chance, 1 + seed % 8, tuple(drawn_word(chance) for k in range(3)), 4)
            text = shown(figure)
            if len(text) <= 160:
                for other in spoilt(text, SIGNS):
                    self.check_text(other)

    def test_words_exchanged(self):
        for figure, text in WRITTEN:
            for word in KINDS:
                for other in KINDS:
                    self.check_text(text.replace(word, other))


if __name__ == "__main__":
    unittest.main()
