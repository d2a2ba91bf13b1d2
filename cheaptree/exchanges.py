"""Exchanges: which ties leave the cheapest tree, and which come into it, by a deed."""

from cheaptree.cheapest import cheapest
from cheaptree.deeds import changed
from cheaptree.nets import are_words


def between(ahead, behind):
    """The pair (gone, come) of what is in the tree ahead alone, and of what is in the tree behind alone."""
    gone = tuple([name for name in ahead if name not in behind])
    come = tuple([name for name in behind if name not in ahead])
    return (gone, come)


def exchange(net, deed):
    """The pair (gone, come) of the names by which the cheapest tree changes; refused as changed refuses the deed."""
    return between(cheapest(net), cheapest(changed(net, deed)))


def shows_exchange(net, deed, told):
    """Whether told, which may be anything, is the exchange of a deed that is let."""
    if not isinstance(told, tuple) or len(told) != 2 or not are_words(told[0]) or not are_words(told[1]):
        return False
    return told == exchange(net, deed)
