"""Whether a paper that is handed in shows that a tree is the cheapest."""

from cheaptree.forests import is_forest, is_tree
from cheaptree.nets import cheaper, cheapest_of, is_rising, is_word, out_of
from cheaptree.papers import ways_in


def is_pair_of(name, thing):
    """Whether thing, which may be anything, is a pair of this name and a tuple of words."""
    if not isinstance(thing, tuple) or len(thing) != 2 or not is_word(thing[0]) or thing[0] != name:
        return False
    return isinstance(thing[1], tuple) and all([is_word(part) for part in thing[1]])


def are_pairs_of(names, thing):
    """Whether thing, which may be anything, is a tuple of such pairs, one for each of the names in their order."""
    if not isinstance(thing, tuple) or len(thing) != len(names):
        return False
    return all([is_pair_of(name, pair) for name, pair in zip(names, thing)])


def shows_by_ways(net, tree, thing):
    """Whether tree is a forest, and thing tells for each open tie without its way within, of cheaper ties alone.

    Both tree and thing may be anything.
    """
    if not is_forest(net, tree):
        return False
    wanted = ways_in(net, tree)
    # What is handed in is compared only where it holds nothing but words, as other things may fail when compared.
    if not are_pairs_of([pair[0] for pair in wanted], thing) or thing != wanted:
        return False
    return all([cheaper(net, step, name) for name, along in wanted for step in along])


def is_cut(net, name, side):
    """Whether side, a tuple of words, is a rising one of places, and the named tie the cheapest out of it."""
    if not is_rising(side) or not all([place in net[0] for place in side]):
        return False
    return cheapest_of(net, out_of(net, side)) == name


def shows_by_cuts(net, tree, thing):
    """Whether tree is a tree, and thing tells for each tie within a side, of all ties out of which it is the cheapest.

    Both tree and thing may be anything.
    """
    if not is_tree(net, tree) or not are_pairs_of(tree, thing):
        return False
    return all([is_cut(net, name, side) for name, side in thing])
