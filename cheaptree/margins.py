"""Margins: up to which cost a tie is in the cheapest tree, and for which other one."""

from cheaptree.cheapest import cheapest
from cheaptree.errors import NoTie
from cheaptree.forests import way
from cheaptree.nets import cheapest_of, dearest_of, is_open, out_of, ties_by_name
from cheaptree.papers import side_of


def greatest_cost(net, name, other):
    """The greatest cost at which the tie called name is cheaper than the other one."""
    cost = ties_by_name(net)[other][3]
    return cost if name < other else cost - 1


def margin_within(net, tree, tie):
    """The margin of a tie of the cheapest tree: the cheapest other one out of its side comes in for it."""
    name = tie[0]
    others = [each for each in out_of(net, side_of(net, tree, tie)) if each != name]
    if not others:
        return ("stays", None, None)
    other = cheapest_of(net, others)
    return ("stays", greatest_cost(net, name, other), other)


def margin_without(net, tree, tie):
    """The margin of an open tie that isn't in the cheapest tree: the dearest one of its way there leaves for it."""
    other = dearest_of(net, way(net, tree, tie[1], tie[2]))
    return ("comes", greatest_cost(net, tie[0], other), other)


def margin(net, name):
    """How much the tie called name may cost ahead of leaving the cheapest tree, or for coming into it."""
    named = ties_by_name(net)
    if name not in named:
        raise NoTie()
    tie = named[name]
    if not is_open(net, tie):
        return ("waits",)
    tree = cheapest(net)
    if name in tree:
        return margin_within(net, tree, tie)
    return margin_without(net, tree, tie)
