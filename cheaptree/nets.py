"""Nets: places, the ties between them, and what the ties cost.

A net is a pair (places, ties), a tie (name, one, other, cost).
"""

LONGEST_WORD = 8


def is_word(thing):
    """Whether thing, which may be anything, is a text of 1 to 8 letters a to z."""
    if not isinstance(thing, str) or not 1 <= len(thing) <= LONGEST_WORD:
        return False
    return all(["a" <= sign <= "z" for sign in thing])


def is_whole(thing):
    """Whether thing, which may be anything, is a whole number."""
    # Python counts True and False as ints; here they are none.
    return isinstance(thing, int) and not isinstance(thing, bool)


def is_rising(words):
    """Whether each of the words is less than the next, so that no two are alike."""
    return all([low < high for low, high in zip(words, words[1:])])


def are_words(thing):
    """Whether thing, which may be anything, is a rising tuple of unlike words."""
    if not isinstance(thing, tuple) or not all([is_word(part) for part in thing]):
        return False
    return is_rising(thing)


def is_tie(thing):
    """Whether thing, which may be anything, is a tie."""
    if not isinstance(thing, tuple) or len(thing) != 4:
        return False
    name, one, other, cost = thing
    if not is_word(name) or not is_word(one) or not is_word(other):
        return False
    return one < other and is_whole(cost)


def are_ties(thing):
    """Whether thing, which may be anything, is a rising tuple of ties, no two names alike."""
    if not isinstance(thing, tuple) or not all([is_tie(tie) for tie in thing]):
        return False
    # Names that rise are unlike, and where names are unlike ties rise just as their names do.
    return is_rising([tie[0] for tie in thing])


def is_net(thing):
    """Whether thing, which may be anything, is a net, of whatever size."""
    if not isinstance(thing, tuple) or len(thing) != 2:
        return False
    return are_words(thing[0]) and are_ties(thing[1])


def empty():
    """The net without anything."""
    return ((), ())


def is_open(net, tie):
    """Whether both places of a tie of the net are among its places; else the tie waits."""
    return tie[1] in net[0] and tie[2] in net[0]


def ties_by_name(net):
    """The ties of the net, each under its name."""
    return {tie[0]: tie for tie in net[1]}


def open_ties(net):
    """The rising tuple of the names of the open ties."""
    return tuple([tie[0] for tie in net[1] if is_open(net, tie)])


def waiting(net):
    """The rising tuple of the names of the ties that wait."""
    return tuple([tie[0] for tie in net[1] if not is_open(net, tie)])


def ranks(net):
    """For each name of a tie what decides which of two ties is cheaper: the cost, then the name."""
    return {tie[0]: (tie[3], tie[0]) for tie in net[1]}


def cheaper(net, name, other):
    """Whether the tie called name is cheaper than another one; of alike costs the name decides."""
    rank = ranks(net)
    return rank[name] < rank[other]


def cheapest_of(net, names):
    """Of the ties with these names the one to which no other is cheaper; None where there are no names."""
    rank = ranks(net)
    return min(names, key=lambda name: rank[name], default=None)


def dearest_of(net, names):
    """Of the ties with these names the one that is cheaper than no other; None where there are no names."""
    rank = ranks(net)
    return max(names, key=lambda name: rank[name], default=None)


def out_of(net, side):
    """The rising tuple of the names of the open ties that have just one of their places in side."""
    return tuple([tie[0] for tie in net[1] if is_open(net, tie) and (tie[1] in side) != (tie[2] in side)])
