"""A second reckoning, by trying all, that draws nothing from the program; and many small nets to reckon of."""

import itertools

COSTS = ((1, 2, 3, 4, 5, 6, 7), (0, 1), (5,), (-2, -1, 0, 1), (10**29, 10**30 - 1, -(10**30) + 1, 10**30 - 2))


def drawn(seed):
    """Without an end, whole numbers that look as if drawn, the same each time."""
    while True:
        seed = (seed * 6364136223846793005 + 1442695040888963407) % 2**64
        yield seed >> 33


def small_nets(many, most_places=5, most_ties=7):
    """Nets of few places and ties: alike costs, below nought, great ones, parallel ties, waiting ones, pieces."""
    figures = drawn(most_places * 100 + most_ties)
    for k in range(many):
        words = "abcdefgh"[: 2 + next(figures) % most_places]
        places = [word for word in words if next(figures) % 8][:most_places]
        pairs = list(itertools.combinations(words, 2))
        costs = COSTS[k % len(COSTS)]
        names = "pbzcmaxyktrsdnqf"[: most_ties - next(figures) % (most_ties + 1) * (k % 3) // 2]
        ties = [(name,) + pairs[next(figures) % len(pairs)] + (costs[next(figures) % len(costs)],) for name in names]
        yield (tuple(places), tuple(sorted(ties)))


def full_nets(many):
    """Nets of 8 places and 14 ties, which have far more than 200 trees, or hardly fewer."""
    figures = drawn(814)
    pairs = list(itertools.combinations("abcdefgh", 2))
    for k in range(many):
        costs = COSTS[k % len(COSTS)]
        ties = [(name,) + pairs[next(figures) % 28] + (costs[next(figures) % len(costs)],) for name in "pbzcmaxyktrsdn"]
        yield (tuple("abcdefgh"), tuple(sorted(ties)))


def ties_by_name(net):
    return {tie[0]: tie for tie in net[1]}


def opened(net):
    return [tie for tie in net[1] if {tie[1], tie[2]} <= set(net[0])]


def groups(places, ties):
    """The places in groups that the ties hold together, and whether one of the ties made a round."""
    held = [{place} for place in places]
    round_made = False
    for tie in ties:
        met = [group for group in held if tie[1] in group or tie[2] in group]
        round_made = round_made or len(met) == 1
        held = [group for group in held if group not in met] + [set().union(*met)]
    return sorted([sorted(group) for group in held]), round_made


def without_a_round(net, sizes):
    """All sets of open ties, of these sizes, without a round."""
    ties = opened(net)
    sets = [rows for size in sizes for rows in itertools.combinations(ties, size)]
    return [rows for rows in sets if not groups(net[0], rows)[1]]


def all_forests(net):
    """All forests, as tuples of names, by trying all sets of open ties."""
    return [tuple([tie[0] for tie in rows]) for rows in without_a_round(net, range(len(net[1]) + 1))]


def all_trees(net):
    """All trees, the lesser first."""
    named = ties_by_name(net)
    whole = groups(net[0], opened(net))[0]
    # Each tie without a round makes one group of two, so trees have all the same size.
    rows = [each for each in without_a_round(net, [len(net[0]) - len(whole)]) if groups(net[0], each)[0] == whole]
    told = [tuple([tie[0] for tie in each]) for each in rows]
    return sorted(told, key=lambda names: (sum([named[name][3] for name in names]), names))


def least_tree(net):
    return all_trees(net)[0]


def leads(net, names, one, other):
    """Whether one comes along the named ties, in their order, from the one to the other, to no place twice."""
    named = ties_by_name(net)
    seen = [one]
    for name in names:
        ends = named[name][1:3]
        if seen[-1] not in ends:
            return False
        seen.append(ends[0] if seen[-1] == ends[1] else ends[1])
    return seen[-1] == other and len(set(seen)) == len(seen)


def ways_by_trying(net, forest, one, other):
    """All ways of the forest from the one to the other, by trying all orders of all ties of it."""
    rows = [row for size in range(len(forest) + 1) for row in itertools.permutations(forest, size)]
    return [row for row in rows if leads(net, row, one, other)]


def all_ways(net, one, other):
    """All ways along open ties from the one to the other, to no place twice."""
    found = []
    ahead = [((), (one,))]
    while ahead:
        names, seen = ahead.pop()
        if seen[-1] == other:
            found.append(names)
            continue
        for name, low, high, cost in opened(net):
            if seen[-1] in (low, high):
                beyond = low if seen[-1] == high else high
                if beyond not in seen:
                    ahead.append((names + (name,), seen + (beyond,)))
    return found


def rank(net, name):
    """What makes one tie cheaper than another."""
    return (ties_by_name(net)[name][3], name)


def crossing(net, side):
    """The names of the open ties with just one of their places in side."""
    return [tie[0] for tie in opened(net) if (tie[1] in side) != (tie[2] in side)]
