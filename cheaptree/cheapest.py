"""The cheapest tree of a net."""

from cheaptree.nets import open_ties, ranks, ties_by_name


def cheapest(net):
    """The least tree: of all open ties, the cheaper first, each that makes no round with those kept."""
    rank = ranks(net)
    named = ties_by_name(net)
    # Each place bears the word of one place of those that the kept ties hold together with it.
    group = {place: place for place in net[0]}
    kept = []
    for name in sorted(open_ties(net), key=lambda each: rank[each]):
        tie = named[name]
        stays, goes = group[tie[1]], group[tie[2]]
        if stays != goes:
            kept.append(name)
            group = {place: stays if word == goes else word for place, word in group.items()}
    return tuple(sorted(kept))
