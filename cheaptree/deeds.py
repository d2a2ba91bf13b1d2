"""Deeds: how places and ties come and go, and what they make of a net."""

from cheaptree.errors import NoDeed, NoPlace, NoTie, Taken
from cheaptree.nets import is_whole, is_word, ties_by_name


def are_ends_and_cost(parts):
    """Whether a tuple, of whatever parts, holds two unlike words and a whole number."""
    if len(parts) != 3 or not is_word(parts[0]) or not is_word(parts[1]):
        return False
    return parts[0] != parts[1] and is_whole(parts[2])


def is_deed(thing):
    """Whether thing, which may be anything, is a deed."""
    if not isinstance(thing, tuple) or len(thing) < 2 or not is_word(thing[0]) or not is_word(thing[1]):
        return False
    rest = thing[2:]
    if thing[0] == "tie":
        return are_ends_and_cost(rest)
    if thing[0] == "cost":
        return len(rest) == 1 and is_whole(rest[0])
    return thing[0] in ("place", "leave", "untie") and len(rest) == 0


def place_comes(net, deed):
    """The net behind ("place", p)."""
    place = deed[1]
    if place in net[0]:
        raise Taken()
    return (tuple(sorted(net[0] + (place,))), net[1])


def place_leaves(net, deed):
    """The net behind ("leave", p): its ties stay, and wait."""
    place = deed[1]
    if place not in net[0]:
        raise NoPlace()
    return (tuple([each for each in net[0] if each != place]), net[1])


def tie_comes(net, deed):
    """The net behind ("tie", name, one, other, cost), the places in either order."""
    name, one, other, cost = deed[1:]
    if name in ties_by_name(net):
        raise Taken()
    tie = (name, min(one, other), max(one, other), cost)
    return (net[0], tuple(sorted(net[1] + (tie,))))


def tie_goes(net, deed):
    """The net behind ("untie", name)."""
    name = deed[1]
    if name not in ties_by_name(net):
        raise NoTie()
    return (net[0], tuple([tie for tie in net[1] if tie[0] != name]))


def tie_costs(net, deed):
    """The net behind ("cost", name, cost)."""
    name, cost = deed[1:]
    if name not in ties_by_name(net):
        raise NoTie()
    return (net[0], tuple([tie[:3] + (cost,) if tie[0] == name else tie for tie in net[1]]))


DEEDS = {"place": place_comes, "leave": place_leaves, "tie": tie_comes, "untie": tie_goes, "cost": tie_costs}


def changed(net, deed):
    """The net behind the deed; what is no deed is refused with NoDeed, whatever it is."""
    if not is_deed(deed):
        raise NoDeed()
    done = DEEDS[deed[0]]
    return done(net, deed)
