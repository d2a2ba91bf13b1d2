"""A desk: lines are said to it, and it answers of the net that it keeps.

Each line is its first word, which is that of a question or a deed, and the words behind it.
"""

from cheaptree.counting import how_many
from cheaptree.dearest import dearest
from cheaptree.deeds import is_deed
from cheaptree.errors import NoBack, NoLine, NoPlace, NoTie, NoTree, Taken
from cheaptree.keeper import Keeper
from cheaptree.margins import margin
from cheaptree.nets import dearest_of, is_word, waiting
from cheaptree.pieces import pieces
from cheaptree.texts import is_number, net_text, number_in, number_text
from cheaptree.trees import tree_at


def exchange_text(told):
    """The answer that tells the pair (gone, come)."""
    gone, come = told
    return " ".join(("gone",) + gone + ("come",) + come)


def deed_in(words):
    """The deed that the words of a line write; refused with NoLine where they write none."""
    parts = list(words)
    if words[0] in ("tie", "cost"):
        if not is_number(words[-1]):
            raise NoLine()
        parts[-1] = number_in(words[-1])
    deed = tuple(parts)
    if not is_deed(deed):
        raise NoLine()
    return deed


def do_deed(keeper, words):
    """What goes and comes by a deed, or why it is refused."""
    deed = deed_in(words)
    try:
        return exchange_text(keeper.do(deed))
    except Taken:
        return "taken"
    except NoPlace:
        return "no place"
    except NoTie:
        return "no tie"


def go_back(keeper, words):
    """What goes and comes by going back."""
    try:
        return exchange_text(keeper.back())
    except NoBack:
        return "no back"


def tell_tree(keeper, words):
    """The names of the cheapest tree."""
    return " ".join(keeper.tree())


def tell_sum(keeper, words):
    """What the cheapest tree costs."""
    return number_text(keeper.cost())


def tell_pieces(keeper, words):
    """The pieces, each one's places parted by a plus."""
    return " ".join(["+".join(piece) for piece in pieces(keeper.net())])


def tell_waiting(keeper, words):
    """The names of the ties that wait."""
    return " ".join(waiting(keeper.net()))


def tell_margin(keeper, words):
    """How much the named tie may cost."""
    if not is_word(words[1]):
        raise NoLine()
    try:
        told = margin(keeper.net(), words[1])
    except NoTie:
        return "no tie"
    if told[1:] in ((), (None, None)):
        return told[0]
    return f"{told[0]} {number_text(told[1])} {told[2]}"


def tell_dearest(keeper, words):
    """The dearest tie of the way between two places."""
    one, other = words[1:]
    net = keeper.net()
    if one == other or one not in net[0] or other not in net[0]:
        raise NoLine()
    told = dearest(net, one, other)
    return "none" if told is None else dearest_of(net, told[0])


def tell_next(keeper, words):
    """The names of the tree at a place."""
    if not is_number(words[1]) or words[1].startswith("-"):
        raise NoLine()
    try:
        return " ".join(tree_at(keeper.net(), number_in(words[1])))
    except NoTree:
        return "none"


def tell_many(keeper, words):
    """How many trees there are."""
    return number_text(how_many(keeper.net()))


def tell_net(keeper, words):
    """The net's text on one row."""
    return " / ".join(net_text(keeper.net()).split("\n"))


ANSWERS = {
    "place": do_deed, "leave": do_deed, "tie": do_deed, "untie": do_deed, "cost": do_deed, "back": go_back,
    "tree": tell_tree, "sum": tell_sum, "pieces": tell_pieces, "wait": tell_waiting, "margin": tell_margin,
    "dear": tell_dearest, "next": tell_next, "many": tell_many, "net": tell_net,
}
# How many words each line has, its first one counted.
LENGTHS = {
    "place": 2, "leave": 2, "tie": 5, "untie": 2, "cost": 3, "back": 1, "tree": 1, "sum": 1, "pieces": 1, "wait": 1,
    "margin": 2, "dear": 3, "next": 2, "many": 1, "net": 1,
}


class Desk:
    """Keeps a Keeper, and answers lines."""

    def __init__(self):
        self.keeper = Keeper()

    def say(self, line):
        """The answer to a line; what is none, whatever it is, is refused with NoLine, and changes nothing."""
        if not isinstance(line, str):
            raise NoLine()
        words = line.split(" ")
        if words[0] not in ANSWERS or len(words) != LENGTHS[words[0]]:
            raise NoLine()
        answer = ANSWERS[words[0]]
        return answer(self.keeper, words)
