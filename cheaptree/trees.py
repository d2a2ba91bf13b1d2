"""The trees of a net in their order, the lesser first.

A part is a pair (ins, outs) of tuples of names of open ties: it has the trees with all ins and none of outs.
"""

from cheaptree.cheapest import cheaper_first, without_round
from cheaptree.counting import how_many
from cheaptree.errors import NoTree
from cheaptree.forests import cost_of, is_tree
from cheaptree.nets import open_ties

WHOLE = ((), ())


def standing(net, tree):
    """What decides which of two trees is the lesser: the cost, then the names."""
    return (cost_of(net, tree), tree)


def least_of(net, part):
    """The least tree of a part whose ins make no round; None where it has none."""
    ins, outs = part
    let = [name for name in open_ties(net) if name not in outs]
    # One of the ins that is met again among those let is not kept twice: it makes a round with itself.
    names = without_round(net, list(ins) + cheaper_first(net, let))
    return names if is_tree(net, names) else None


def parts_behind(tree, part):
    """The parts that have, each one once, all trees of the part but tree, its least one."""
    ins, outs = part
    free = [name for name in tree if name not in ins]
    return [(ins + tuple(free[:k]), outs + (free[k],)) for k in range(len(free))]


def least_ones(net, parts):
    """For each of the parts that has a tree the pair of its least one's standing and the part."""
    found = [(least_of(net, part), part) for part in parts]
    return [(standing(net, tree), part) for tree, part in found if tree is not None]


def trees(net, many):
    """The tuple of the first many trees, the lesser first; all, where there are no more."""
    told = []
    # Each tree not yet told is of just one of the parts left, so the next one is the least of their least ones.
    left = least_ones(net, [WHOLE])
    while left and len(told) < many:
        first = min(left)
        left.remove(first)
        tree = first[0][1]
        told.append(tree)
        left.extend(least_ones(net, parts_behind(tree, first[1])))
    return tuple(told)


def tree_at(net, k):
    """The tree at place k, from 0, of all in their order; refused with NoTree where there are not so many."""
    # Counted ahead, as going through all of them, only to find too few, may take long.
    if k >= how_many(net):
        raise NoTree()
    return trees(net, k + 1)[k]
