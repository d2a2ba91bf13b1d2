"""The cheapest tree of a net."""

from cheaptree.nets import open_ties, ranks


def cheapest(net):
    """The least tree: of all open ties, the cheaper first, each that makes no round with those kept."""
    rank = ranks(net)
    ends = {tie[0]: (tie[1], tie[2]) for tie in net[1]}
    # Each place bears the word of one place of those that the kept ties hold together with it.
    group = {place: place for place in net[0]}
    kept = []
    for name in sorted(open_ties(net), key=lambda each: rank[each]):
        one, other = ends[name]
        stays, goes = group[one], group[other]
        if stays != goes:
            kept.append(name)
            group = {place: stays if word == goes else word for place, word in group.items()}
    return tuple(sorted(kept))
