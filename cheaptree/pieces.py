"""The pieces of a net: the places that open ties hold together."""

from cheaptree.nets import is_open


def neighbours(net):
    """For each place of the net the places at the other ends of its open ties."""
    beside = {place: [] for place in net[0]}
    for tie in net[1]:
        if is_open(net, tie):
            beside[tie[1]].append(tie[2])
            beside[tie[2]].append(tie[1])
    return beside


def reached(beside, start):
    """The rising list of the places to which one comes from start, start among them."""
    seen = {start}
    ahead = [start]
    # A list of places ahead, as calls within calls would bound how long a way may be.
    while ahead:
        here = ahead.pop()
        for place in beside[here]:
            if place not in seen:
                seen.add(place)
                ahead.append(place)
    return sorted(seen)


def pieces(net):
    """The rising tuple of the pieces, each the rising tuple of its places."""
    beside = neighbours(net)
    seen = set()
    told = []
    # Places rise, so each piece is met first at its least place, and the pieces rise too.
    for start in net[0]:
        if start not in seen:
            piece = reached(beside, start)
            for place in piece:
                seen.add(place)
            told.append(tuple(piece))
    return tuple(told)
