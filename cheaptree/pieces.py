"""The pieces of a net: the places that open ties hold together."""

from cheaptree.nets import is_open


def neighbours(net):
    """For each place of the net the pairs (name, place at the other end) of its open ties."""
    beside = {place: [] for place in net[0]}
    for tie in net[1]:
        if is_open(net, tie):
            beside[tie[1]].append((tie[0], tie[2]))
            beside[tie[2]].append((tie[0], tie[1]))
    return beside


def came_by(beside, start):
    """For each place to which one comes from start the pair (name, place) of the last tie and the place ahead of it.

    Of start itself, to which no tie leads, None.
    """
    come = {start: None}
    ahead = [start]
    # A list of places ahead, as calls within calls would bound how long a way may be.
    while ahead:
        here = ahead.pop()
        for name, place in beside[here]:
            if place not in come:
                come[place] = (name, here)
                ahead.append(place)
    return come


def reached(beside, start):
    """The rising tuple of the places to which one comes from start, start among them."""
    return tuple(sorted(came_by(beside, start)))


def pieces(net):
    """The rising tuple of the pieces, each the rising tuple of its places."""
    beside = neighbours(net)
    seen = set()
    told = []
    # Places rise, so each piece is met first at its least place, and the pieces rise too.
    for start in net[0]:
        if start not in seen:
            piece = reached(beside, start)
            for place in piece:
                seen.add(place)
            told.append(piece)
    return tuple(told)
