"""Figures in writing: shown as a text, and read from one."""

from lastwaltz.errors import NoFigure
from lastwaltz.figures import is_name

DIGITS = "0123456789"
# No number of more digits is one of a guest, and each of fewer is.
MOST_DIGITS = 12
DEEPEST = 8
# How few and how many things stand behind each word in brackets.
SIZES = {
    "pair": (2, 2), "line": (2, 60), "star": (2, 60), "all": (2, 60), "quad": (4, 4), "row": (1, 60), "back": (1, 1),
}


def shown_parts(figure):
    """The texts of what stands behind the figure's word."""
    if figure[0] == "pair":
        return [str(figure[1]), str(figure[2])]
    if figure[0] == "back":
        return [shown(figure[1])]
    if figure[0] == "row":
        return [shown(inner) for inner in figure[1]]
    return [str(guest) for guest in figure[1]]


def shown(figure):
    """The figure as a text."""
    if figure[0] == "name":
        return figure[1]
    words = " ".join([figure[0]] + shown_parts(figure))
    return f"({words})"


def read_number(word):
    """The number that the word writes, or None where it writes none."""
    if not 1 <= len(word) <= MOST_DIGITS or not all([sign in DIGITS for sign in word]):
        return None
    if word[0] == "0" and word != "0":
        return None
    return int(word)


def word_at(text, at):
    """The word that begins at the place, maybe an empty one, and the place behind it."""
    end = at
    while end < len(text) and text[end] not in " ()":
        end += 1
    return text[at:end], end


def number_at(text, at):
    """The number that begins at the place, and the place behind it."""
    word, end = word_at(text, at)
    number = read_number(word)
    if number is None:
        raise NoFigure(f"there is no number at place {at}")
    return number, end


def parts_at(text, at, read_part):
    """All parts, a blank ahead of each, up to the closing bracket, and the place behind that."""
    parts = []
    while text[at:at + 1] == " ":
        part, at = read_part(text, at + 1)
        parts.append(part)
    if text[at:at + 1] != ")":
        raise NoFigure(f"there is no closing bracket at place {at}")
    return tuple(parts), at + 1


def figure_of(word, parts):
    """The figure of a word in brackets and of what stands behind it."""
    if word not in SIZES:
        raise NoFigure("there is no such word of a figure")
    fewest, most = SIZES[word]
    if not fewest <= len(parts) <= most:
        raise NoFigure(f"too few or too many things behind {word}")
    if word == "quad" and len(set(parts)) < 4:
        raise NoFigure("a quad is of four unlike guests")
    if word == "pair":
        return ("pair", parts[0], parts[1])
    if word == "back":
        return ("back", parts[0])
    return (word, parts)


def bracket_at(text, at, deep):
    """The figure whose word begins at the place behind its bracket, and the place behind it."""
    word, at = word_at(text, at)
    if word in ("row", "back"):
        parts, at = parts_at(text, at, lambda source, place: figure_at(source, place, deep - 1))
    else:
        parts, at = parts_at(text, at, number_at)
    return figure_of(word, parts), at


def figure_at(text, at, deep):
    """The figure, at most so deep, that begins at the place, and the place behind it."""
    if deep == 0:
        raise NoFigure("the figure is too deep")
    if text[at:at + 1] == "(":
        return bracket_at(text, at + 1, deep)
    word, end = word_at(text, at)
    if not is_name(word):
        raise NoFigure(f"there is neither a bracket nor a name at place {at}")
    return ("name", word), end


def read_figure(text):
    """The figure that the text writes."""
    figure, end = figure_at(text, 0, DEEPEST)
    if end != len(text):
        raise NoFigure("something stands behind the figure")
    return figure
