"""Between two places the way whose dearest tie is as cheap as can be, and a side that shows it."""

from cheaptree.cheapest import cheapest
from cheaptree.forests import only, way
from cheaptree.nets import are_words, cheaper, dearest_of, is_word, open_ties, out_of, ties_by_name
from cheaptree.pieces import neighbours, reached


def dearest(net, one, other):
    """The pair (way, side) of two unlike places: way that of the cheapest tree; None where there is none.

    Side holds the places to which one comes from the one along ties of that tree that are cheaper than the dearest
    one of the way.
    """
    tree = cheapest(net)
    along = way(net, tree, one, other)
    if along is None:
        return None
    top = dearest_of(net, along)
    lower = [name for name in tree if cheaper(net, name, top)]
    return (along, reached(neighbours(only(net, lower)), one))


def are_open(net, thing):
    """Whether thing, which may be anything, is a tuple of names of open ties, in any order."""
    if not isinstance(thing, tuple) or not all([is_word(part) for part in thing]):
        return False
    there = open_ties(net)
    return all([name in there for name in thing])


def leads(net, names, one, other):
    """Whether one comes along these open ties, in their order, from the one to the other, to each place once."""
    named = ties_by_name(net)
    seen = [one]
    for name in names:
        ends = named[name][1:3]
        if seen[-1] not in ends:
            return False
        beyond = ends[1] if seen[-1] == ends[0] else ends[0]
        if beyond in seen:
            return False
        seen.append(beyond)
    return seen[-1] == other


def parts_them(net, side, one, other):
    """Whether side, which may be anything, is a rising tuple of places, the one in it, the other not."""
    if not are_words(side) or not all([place in net[0] for place in side]):
        return False
    return one in side and other not in side


def shows_dearest(net, one, other, told):
    """Whether told, which may be anything, is a way and a side out of which no tie is cheaper than its dearest one."""
    if not isinstance(told, tuple) or len(told) != 2:
        return False
    along, side = told
    if not are_open(net, along) or not leads(net, along, one, other) or not parts_them(net, side, one, other):
        return False
    # The way leads out of the side, so it has a tie, and so has what leads out.
    top = dearest_of(net, along)
    return not any([cheaper(net, name, top) for name in out_of(net, side)])
