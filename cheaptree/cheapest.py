"""The cheapest tree of a net."""

from cheaptree.nets import open_ties, ranks, ties_by_name


def cheaper_first(net, names):
    """The list of these names, those of the cheaper ties first."""
    rank = ranks(net)
    return sorted(names, key=lambda name: rank[name])


def without_round(net, names):
    """The rising tuple of those of these open ties, in the order handed in, that make no round with those kept."""
    named = ties_by_name(net)
    # Each place bears the word of one place of those that the kept ties hold together with it.
    group = {place: place for place in net[0]}
    kept = []
    for name in names:
        tie = named[name]
        stays, goes = group[tie[1]], group[tie[2]]
        if stays != goes:
            kept.append(name)
            group = {place: stays if word == goes else word for place, word in group.items()}
    return tuple(sorted(kept))


def cheapest(net):
    """The least tree: of all open ties, the cheaper first, each that makes no round with those kept."""
    return without_round(net, cheaper_first(net, open_ties(net)))
