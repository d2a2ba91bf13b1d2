"""Forests and trees: ties without a round, what they cost, and the ways along them."""

from cheaptree.nets import are_words, open_ties, ties_by_name
from cheaptree.pieces import came_by, neighbours, pieces


def only(net, names):
    """The net with all its places, and of its ties just those with these names."""
    return (net[0], tuple([tie for tie in net[1] if tie[0] in names]))


def is_forest(net, thing):
    """Whether thing, which may be anything, is a rising tuple of names of open ties without a round."""
    if not are_words(thing):
        return False
    there = open_ties(net)
    if not all([name in there for name in thing]):
        return False
    # A tie that makes no round makes one piece of two; one that makes a round leaves as many as there were.
    return len(pieces(only(net, thing))) == len(net[0]) - len(thing)


def is_tree(net, thing):
    """Whether thing, which may be anything, is a forest that holds each piece of the net together."""
    return is_forest(net, thing) and pieces(only(net, thing)) == pieces(net)


def cost_of(net, names):
    """The sum of the costs of the ties with these names, open or not."""
    named = ties_by_name(net)
    return sum([named[name][3] for name in names])


def way(net, forest, one, other):
    """The names of the ties, in their order, from one place to the other in the forest; None where there is no way."""
    # Walked from the other, so that the last ties, followed from the one, lead there in their order.
    come = came_by(neighbours(only(net, forest)), other)
    if one not in come:
        return None
    names = []
    here = one
    while here != other:
        name, here = come[here]
        names.append(name)
    return tuple(names)
