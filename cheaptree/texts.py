"""Nets as texts: a row for each place, then one for each tie."""

from cheaptree.errors import NoText
from cheaptree.nets import is_rising, is_tie, is_word


def is_number(text):
    """Whether a text writes a whole number: by figures, no 0 ahead but in 0 itself, - ahead below 0."""
    figures = text[1:] if text.startswith("-") else text
    if not figures or not all(["0" <= sign <= "9" for sign in figures]):
        return False
    return figures[0] != "0" or text == "0"


def number_in(text):
    """The whole number that a text writes."""
    if text.startswith("-"):
        return -number_in(text[1:])
    number = 0
    # Figure by figure here and below, as Python's own way refuses numbers of some thousand figures.
    for figure in text:
        number = number * 10 + int(figure)
    return number


def number_text(number):
    """The text of a whole number."""
    left = abs(number)
    figures = ""
    while left > 9:
        figures = str(left % 10) + figures
        left = left // 10
    sign = "-" if number < 0 else ""
    return sign + str(left) + figures


def tie_in(words):
    """The tie that the words of a row write; None where they write none."""
    if len(words) != 5 or words[0] != "tie" or not is_number(words[4]):
        return None
    tie = (words[1], words[2], words[3], number_in(words[4]))
    return tie if is_tie(tie) else None


def is_place_row(words):
    """Whether the words of a row write a place."""
    return len(words) == 2 and words[0] == "place" and is_word(words[1])


def net_text(net):
    """The text of a net: rows parted by a line feed, the empty text for the empty net."""
    rows = [f"place {place}" for place in net[0]]
    rows += [f"tie {name} {one} {other} {number_text(cost)}" for name, one, other, cost in net[1]]
    return "\n".join(rows)


def read_net(text):
    """The net of a text; refused with NoText, with the number of the first row that is wrong or may not stand there."""
    places = []
    ties = []
    rows = text.split("\n") if text else []
    for at, row in enumerate(rows):
        words = row.split(" ")
        tie = tie_in(words)
        if is_place_row(words) and not ties and is_rising(places[-1:] + [words[1]]):
            places.append(words[1])
        elif tie is not None and is_rising([each[0] for each in ties[-1:] + [tie]]):
            ties.append(tie)
        else:
            raise NoText(at)
    return (tuple(places), tuple(ties))
