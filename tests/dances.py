"""For the tests: drawn figures, and plain readings of figures and of their texts."""

import itertools
import re

from evenings import TOP
from lastwaltz.rows import quadrille

KINDS = ("pair", "line", "star", "all", "quad", "row", "back", "name")
NUMBER = "(?:0|[1-9][0-9]{0,11})"
SIZES = {"pair": (2, 2), "line": (2, 60), "star": (2, 60), "all": (2, 60), "quad": (4, 4), "row": (1, 60),
    "back": (1, 1)}


def drawn_guest(chance):
    return chance.choice((0, 1, 2, TOP, chance.randint(0, 60), chance.randint(0, TOP)))


def drawn_guests(chance, most=60):
    """Two or more guests, of whom one may stand there twice."""
    many = chance.choice((2, 3, chance.randint(2, most), most))
    return tuple(drawn_guest(chance) for k in range(many))


def drawn_word(chance):
    """A good name of 1 to 12 letters."""
    while True:
        word = "".join(chance.choice("abcdefghijklmnopqrstuvwxyz") for k in range(chance.choice((1, 2, 5, 12))))
        if word not in KINDS:
            return word


def drawn_figure(chance, deep, names=(), most=6):
    """A figure at most so deep, of guests, of names if there are some, and of other figures."""
    kind = chance.choice(("pair", "line", "star", "all", "quad") + ("row", "back") * 3 + ("name",) * bool(names))
    if deep == 1 and kind in ("row", "back"):
        kind = "pair"
    if kind == "pair":
        return ("pair", drawn_guest(chance), drawn_guest(chance))
    if kind == "name":
        return ("name", chance.choice(names))
    if kind == "quad":
        return ("quad", tuple(chance.sample(range(70), 4)))
    if kind == "row":
        many = chance.randint(1, 4)
        return ("row", tuple(drawn_figure(chance, deep - 1, names, most) for k in range(many)))
    if kind == "back":
        return ("back", drawn_figure(chance, deep - 1, names, most))
    return (kind, drawn_guests(chance, most))


def nested(deep, inner, kinds=("row", "back")):
    """A figure so deep, by turns of these kinds, with the inner one in its midst."""
    figure = inner
    for kind in itertools.islice(itertools.cycle(kinds), deep - 1):
        figure = (kind, (figure,)) if kind == "row" else (kind, figure)
    return figure


def inner_ones(figure):
    """The figure and all that stand in it."""
    found = [figure]
    if figure[0] == "row":
        for inner in figure[1]:
            found.extend(inner_ones(inner))
    if figure[0] == "back":
        found.extend(inner_ones(figure[1]))
    return found


def named_in(figure):
    return [one[1] for one in inner_ones(figure) if one[0] == "name"]


def single_pairs(figure):
    """The pairs of a figure that holds no other, by places of its guests."""
    if figure[0] == "pair":
        return [figure[1:]]
    guests = figure[1]
    if figure[0] == "quad":
        return quadrille(*guests)
    places = {
        "line": lambda k, m: m == k + 1, "star": lambda k, m: k == 0, "all": lambda k, m: True,
    }[figure[0]]
    couples = itertools.combinations(range(len(guests)), 2)
    return [(guests[k], guests[m]) for k, m in couples if places(k, m)]


def pairs_of(figure, book, back=False):
    """The pairs of a figure one by one, from the last on if it is danced back; book is a dict of the names."""
    if figure[0] == "name":
        yield from pairs_of(book[figure[1]], book, back)
    elif figure[0] == "back":
        yield from pairs_of(figure[1], book, not back)
    elif figure[0] == "row":
        for inner in (figure[1][::-1] if back else figure[1]):
            yield from pairs_of(inner, book, back)
    else:
        yield from single_pairs(figure)[::-1 if back else 1]


def plain_spread(figure, book):
    """The row, or the word Unknown or TooLong."""
    if not set(named_in(figure)) <= set(book):
        return "Unknown"
    row = list(itertools.islice(pairs_of(figure, book), 2001))
    return row if len(row) <= 2000 else "TooLong"


def deepness(figure):
    if figure[0] == "row":
        return 1 + max(deepness(inner) for inner in figure[1])
    return 1 + deepness(figure[1]) if figure[0] == "back" else 1


def is_good_name(word):
    return re.fullmatch("[a-z]{1,12}", word) is not None and word not in KINDS


def loose_tree(text):
    """The words and brackets of a text as lists in lists, whatever stands between; None where brackets don't fit."""
    stack = [[]]
    for token in re.findall(r"[()]|[^() ]+", text):
        if token == "(":
            stack.append([])
            if len(stack) > 9:
                # More than eight brackets within one another: no figure is so deep.
                return None
        elif token != ")":
            stack[-1].append(token)
        elif len(stack) == 1:
            return None
        else:
            inner = stack.pop()
            stack[-1].append(inner)
    return stack[0][0] if len(stack) == 1 and len(stack[0]) == 1 else None


def tight_text(tree):
    """The one text of such a tree that point 23 allows."""
    return tree if isinstance(tree, str) else "(" + " ".join(tight_text(part) for part in tree) + ")"


def figure_from(tree):
    """The figure of a tree, or None where it is none."""
    if isinstance(tree, str):
        return ("name", tree) if is_good_name(tree) else None
    if not tree or not isinstance(tree[0], str) or tree[0] not in SIZES:
        return None
    word, parts = tree[0], tree[1:]
    if not SIZES[word][0] <= len(parts) <= SIZES[word][1]:
        return None
    if word in ("row", "back"):
        figures = tuple(figure_from(part) for part in parts)
        if None in figures:
            return None
        return (word, figures) if word == "row" else (word, figures[0])
    if not all(isinstance(part, str) and re.fullmatch(NUMBER, part) for part in parts):
        return None
    guests = tuple(int(part) for part in parts)
    if word == "quad" and len(set(guests)) < 4:
        return None
    return (word,) + guests if word == "pair" else (word, guests)


def plain_read(text):
    """The figure that a text writes, or None: read loosely, and then held against the one text of it."""
    tree = loose_tree(text)
    if tree is None or tight_text(tree) != text:
        return None
    figure = figure_from(tree)
    return None if figure is None or deepness(figure) > 8 else figure


def spoilt(text, signs):
    """The text spoilt at every place: a sign left out, put in, told twice, exchanged, replaced, the end cut off."""
    for at in range(len(text) + 1):
        yield text[:at]
        yield text[at:]
        yield text[:at] + text[at + 1:]
        yield text[:at] + text[at:at + 1] * 2 + text[at + 1:]
        yield text[:at] + text[at:at + 2][::-1] + text[at + 2:]
        for sign in signs:
            yield text[:at] + sign + text[at:]
            yield text[:at] + sign + text[at + 1:]
