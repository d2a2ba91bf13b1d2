import itertools
import unittest

from cheaptree.cheapest import cheapest
from cheaptree.nets import empty, is_net
from cheaptree.paperlooks import shows_by_cuts, shows_by_ways
from cheaptree.papers import cuts, ways
from tests.reckoning import (
    all_forests, all_trees, crossing, opened, rank, small_nets, ways_by_trying,
)
from tests.things import all_sets, at, kind, no_words, of_no_text, paths, put

# A piece of four places, one of two, a place without ties, alike costs, parallel ties, and one that waits.
NET = (
    ("a", "b", "c", "d", "e", "f", "g"),
    (
        ("ab", "a", "b", 3), ("ac", "a", "c", -5), ("bc", "b", "c", 9), ("bd", "b", "d", 9), ("cd", "c", "d", 9),
        ("ef", "e", "f", 4), ("efx", "e", "f", 2), ("gy", "g", "y", 4),
    ),
)
TREE = ("ab", "ac", "bd", "efx")
WAYS = (("bc", ("ab", "ac")), ("cd", ("ac", "ab", "bd")), ("ef", ("efx",)))
CUTS = (
    ("ab", ("a", "c")), ("ac", ("a", "b", "d")), ("bd", ("a", "b", "c")), ("efx", ("e",)),
)
NONE = (empty(), (("a",), ()), (("a", "b"), ()), (("a",), (("t", "a", "b", 1),)))


def own_ways(net, tree):
    """For each open tie without its way within, where there is one."""
    told = []
    for name, one, other, cost in opened(net):
        if name not in tree:
            told += [(name, along) for along in ways_by_trying(net, tree, one, other)]
    return tuple(told)


class LooksTest(unittest.TestCase):
    question = None

    def shows(self, net, tree, thing):
        told = type(self).question(net, tree, thing)
        self.assertIsInstance(told, bool)
        self.assertIs(type(self).question(net, tree, thing), told)
        return told

    def all_wrong_parts(self, paper):
        """Every other thing, and a list for a tuple, at each depth of a right paper and of the tree: False."""
        for path in paths(paper):
            whole = at(paper, path)
            tried = no_words() + [TREE, paper, (paper,), "zz"]
            if isinstance(whole, tuple):
                tried += [list(whole), whole + ("a",), whole[:-1], (whole,)]
            for thing in tried:
                # Sides of other places may be right ones; other tests go through all of them.
                if not (isinstance(thing, tuple) and (thing == whole or thing in all_sets(NET[0]))):
                    self.assertIs(self.shows(NET, TREE, put(paper, path, thing)), False, msg=f"{path} {kind(thing)}")
        for path in paths(TREE):
            for thing in no_words() + [list(TREE), paper, "zz", "gy"]:
                self.assertIs(self.shows(NET, put(TREE, path, thing), paper), False, msg=f"{path} {kind(thing)}")

    def all_wrong_things(self):
        """Things of every kind as tree and as paper, in nets with and without ties."""
        for tree, thing in itertools.product(of_no_text() + ["", "ab"], repeat=2):
            self.assertIs(self.shows(NET, tree, thing), False, msg=f"{kind(tree)} {kind(thing)}")
        for net in NONE:
            self.assertIs(self.shows(net, (), ()), True)
            for thing in of_no_text() + ["", "ab"]:
                wanted = isinstance(thing, tuple) and len(thing) == 0
                self.assertIs(self.shows(net, thing, ()), wanted, msg=kind(thing))
                self.assertIs(self.shows(net, (), thing), wanted, msg=kind(thing))

    def pairs_not_rising_left_out_or_twice(self, paper):
        for many in range(len(paper) + 2):
            for pairs in itertools.product(paper, repeat=many):
                self.assertIs(self.shows(NET, TREE, pairs), pairs == paper)

    def test_the_net_of_these_tests(self):
        self.assertIs(is_net(NET), True)
        self.assertEqual((cheapest(NET), ways(NET), cuts(NET)), (TREE, WAYS, CUTS))


class ByWaysTest(LooksTest):
    question = shows_by_ways

    def test_the_cheapest_tree_with_its_ways(self):
        self.assertIs(self.shows(NET, TREE, WAYS), True)
        for net in small_nets(200):
            self.assertIs(self.shows(net, cheapest(net), ways(net)), True, msg=repr(net))

    def test_the_tree_with_a_tie_exchanged_left_out_or_put_in(self):
        for names in all_sets([tie[0] for tie in NET[1]]):
            self.assertIs(self.shows(NET, names, WAYS), names == TREE)
            told = own_ways(NET, names) if names in all_forests(NET) else ()
            self.assertIs(self.shows(NET, names, told), names == TREE)

    def test_a_forest_without_a_way_for_each_open_tie(self):
        for names in all_sets(TREE)[:-1]:
            missing = tuple([(tie[0], None) for tie in opened(NET) if tie[0] not in names])
            self.assertIs(self.shows(NET, names, missing), False)
            self.assertIs(self.shows(NET, names, tuple([(name, ()) for name, way in missing])), False)
            told = dict(missing) | dict(own_ways(NET, names))
            self.assertIs(self.shows(NET, names, tuple(told.items())), False)

    def test_wrong_ways(self):
        ways_tried = all_sets(TREE) + [("ac", "ab"), ("bd", "ab", "ac"), ("ab", "ab", "ac"), ("cd",), ("bc", "bd")]
        ways_tried += [("ac", "ab", "bd", "bd"), ("ac", "ab", "ab", "ab", "bd"), ("ef",), ("efx", "efx"), ("zz",), None]
        for k, along in itertools.product(range(3), ways_tried):
            self.assertIs(self.shows(NET, TREE, put(WAYS, (k, 1), along)), along == WAYS[k][1])
        for k, name in itertools.product(range(3), [tie[0] for tie in NET[1]] + ["zz"]):
            self.assertIs(self.shows(NET, TREE, put(WAYS, (k, 0), name)), name == WAYS[k][0])
            self.assertIs(self.shows(NET, TREE, tuple(sorted(WAYS + ((name, WAYS[k][1]),)))), False)

    def test_pairs_not_rising_left_out_or_twice(self):
        self.pairs_not_rising_left_out_or_twice(WAYS)

    def test_wrong_parts(self):
        self.all_wrong_parts(WAYS)

    def test_wrong_things(self):
        self.all_wrong_things()

    def test_just_the_cheapest_of_all_forests_is_shown(self):
        for net in small_nets(150):
            for forest in all_forests(net):
                wanted = forest == cheapest(net)
                self.assertIs(self.shows(net, forest, own_ways(net, forest)), wanted, msg=f"{net} {forest}")
                self.assertIs(self.shows(net, forest, ways(net)), wanted, msg=f"{net} {forest}")

    def test_costs_alike_where_the_name_decides(self):
        net = (("a", "b"), (("s", "a", "b", 7), ("t", "a", "b", 7)))
        self.assertIs(self.shows(net, ("s",), (("t", ("s",)),)), True)
        self.assertIs(self.shows(net, ("t",), (("s", ("t",)),)), False)


class ByCutsTest(LooksTest):
    question = shows_by_cuts

    def test_the_cheapest_tree_with_its_cuts(self):
        self.assertIs(self.shows(NET, TREE, CUTS), True)
        for net in small_nets(200):
            self.assertIs(self.shows(net, cheapest(net), cuts(net)), True, msg=repr(net))

    def test_the_other_sides_and_places_of_other_pieces(self):
        others = tuple([(name, tuple([word for word in NET[0] if word not in side])) for name, side in CUTS])
        self.assertIs(self.shows(NET, TREE, others), True)
        for side in (("a", "c", "g"), ("a", "c", "e", "f"), ("b", "d"), ("b", "d", "e", "f", "g")):
            self.assertIs(self.shows(NET, TREE, put(CUTS, (0, 1), side)), True)
        for side in (("a", "c", "e"), ("b", "d", "f", "g"), (), ("g",), ("a", "b"), NET[0]):
            self.assertIs(self.shows(NET, TREE, put(CUTS, (0, 1), side)), False)

    def test_all_sides_of_each_tie(self):
        for k, name in enumerate(TREE):
            for side in all_sets(NET[0]):
                out = crossing(NET, side)
                wanted = name in out and name == min(out, key=lambda each: rank(NET, each))
                self.assertIs(self.shows(NET, TREE, put(CUTS, (k, 1), side)), wanted, msg=f"{name} {side}")

    def test_sides_not_rising_with_a_place_twice_or_with_no_place(self):
        for k, (name, side) in enumerate(CUTS):
            for order in itertools.permutations(side):
                self.assertIs(self.shows(NET, TREE, put(CUTS, (k, 1), order)), order == side)
            for place in side:
                self.assertIs(self.shows(NET, TREE, put(CUTS, (k, 1), tuple(sorted(side + (place,))))), False)
            for word in ("y", "zz", "ab", "efx"):
                self.assertIs(self.shows(NET, TREE, put(CUTS, (k, 1), tuple(sorted(side + (word,))))), False)

    def test_pairs_of_other_ties(self):
        for k, name in itertools.product(range(4), [tie[0] for tie in NET[1]] + ["zz"]):
            self.assertIs(self.shows(NET, TREE, put(CUTS, (k, 0), name)), name == TREE[k])
            self.assertIs(self.shows(NET, TREE, tuple(sorted(CUTS + ((name, CUTS[k][1]),)))), False)

    def test_pairs_not_rising_left_out_or_twice(self):
        self.pairs_not_rising_left_out_or_twice(CUTS)

    def test_a_forest_that_is_no_tree(self):
        for names in all_sets(TREE)[:-1]:
            self.assertIs(self.shows(NET, names, tuple([pair for pair in CUTS if pair[0] in names])), False)
            self.assertIs(self.shows(NET, names, CUTS), False)

    def test_wrong_parts(self):
        self.all_wrong_parts(CUTS)

    def test_wrong_things(self):
        self.all_wrong_things()

    def test_other_trees_with_any_sides(self):
        net = (("a", "b", "c"), (("s", "a", "b", 1), ("t", "b", "c", 1), ("u", "a", "c", 1), ("v", "a", "b", 1)))
        sides = all_sets(net[0])
        for tree in all_trees(net):
            shown = [pair for pair in itertools.product(sides, repeat=2) if self.shows(net, tree, tuple(zip(tree, pair)))]
            self.assertEqual(len(shown) > 0, tree == ("s", "t"), msg=f"{tree} {shown}")

    def test_just_the_cheapest_of_all_trees_is_shown(self):
        for net in small_nets(150):
            for tree in all_trees(net):
                sides = dict.fromkeys(tree, ())
                for side in all_sets(net[0]):
                    out = crossing(net, side)
                    if out:
                        sides[min(out, key=lambda each: rank(net, each))] = side
                paper = tuple([(name, sides[name]) for name in tree])
                self.assertIs(self.shows(net, tree, paper), tree == cheapest(net), msg=f"{net} {tree}")


del LooksTest
