"""Papers by which the cheapest tree is the cheapest: a way for each tie without, a side for each tie within."""

from cheaptree.cheapest import cheapest
from cheaptree.forests import only, way
from cheaptree.nets import is_open
from cheaptree.pieces import neighbours, reached


def ways_in(net, tree):
    """The pairs (name, way), one for each open tie that isn't in the tree: its way there, None where there is none."""
    outside = [tie for tie in net[1] if is_open(net, tie) and tie[0] not in tree]
    return tuple([(tie[0], way(net, tree, tie[1], tie[2])) for tie in outside])


def side_of(net, tree, tie):
    """The rising tuple of the places to which one comes from a tie's one along the other ties of the tree."""
    others = [name for name in tree if name != tie[0]]
    return reached(neighbours(only(net, others)), tie[1])


def ways(net):
    """The rising tuple of pairs (name, way), one for each open tie that isn't in the cheapest tree."""
    return ways_in(net, cheapest(net))


def cuts(net):
    """The rising tuple of pairs (name, side), one for each tie of the cheapest tree."""
    tree = cheapest(net)
    return tuple([(tie[0], side_of(net, tree, tie)) for tie in net[1] if tie[0] in tree])
