import itertools
import unittest

from cheaptree.nets import empty, is_net
from cheaptree.pieces import pieces
from tests.things import long_chain, some_words


def net_of(places, pairs):
    """A net whose ties, called by rising words, join these pairs."""
    rows = zip(some_words(len(pairs)), pairs)
    return (tuple(places), tuple([(name, pair[0], pair[1], 1) for name, pair in rows]))


def merged(net):
    """The pieces by another way: groups of places are merged, tie by tie."""
    groups = [{place} for place in net[0]]
    for tie in net[1]:
        if tie[1] in net[0] and tie[2] in net[0]:
            met = [group for group in groups if tie[1] in group or tie[2] in group]
            groups = [group for group in groups if group not in met] + [set().union(*met)]
    return tuple(sorted([tuple(sorted(group)) for group in groups]))


class PiecesTest(unittest.TestCase):
    def told(self, net):
        self.assertIs(is_net(net), True)
        as_it_was = repr(net)
        told = pieces(net)
        self.assertEqual(pieces(net), told)
        self.assertEqual(repr(net), as_it_was)
        self.assertIs(type(told), tuple)
        self.assertEqual(list(told), sorted(set(told)))
        for piece in told:
            self.assertIs(type(piece), tuple)
            self.assertEqual(list(piece), sorted(set(piece)))
        self.assertEqual(sorted([place for piece in told for place in piece]), list(net[0]))
        return told

    def test_the_empty_net(self):
        self.assertEqual(self.told(empty()), ())

    def test_places_without_ties(self):
        self.assertEqual(self.told(net_of("a", [])), (("a",),))
        self.assertEqual(self.told(net_of("abc", [])), (("a",), ("b",), ("c",)))

    def test_a_tie_holds_two_places(self):
        self.assertEqual(self.told(net_of("ab", ["ab"])), (("a", "b"),))
        self.assertEqual(self.told(net_of("abc", ["ac"])), (("a", "c"), ("b",)))

    def test_waiting_ties_hold_nothing(self):
        self.assertEqual(self.told(net_of("", ["ab"])), ())
        self.assertEqual(self.told(net_of("ab", ["ax", "bx"])), (("a",), ("b",)))
        self.assertEqual(self.told(net_of("abx", ["ax", "bx"])), (("a", "b", "x"),))
        self.assertEqual(self.told(net_of("ab", ["ay", "xy", "bx"])), (("a",), ("b",)))

    def test_several_pieces(self):
        net = net_of("abcdefgh", ["ah", "bg", "gh", "cf", "df"])
        self.assertEqual(self.told(net), (("a", "b", "g", "h"), ("c", "d", "f"), ("e",)))

    def test_rounds_and_parallel_ties(self):
        self.assertEqual(self.told(net_of("abc", ["ab", "bc", "ac"])), (("a", "b", "c"),))
        self.assertEqual(self.told(net_of("abc", ["ab", "ab", "ab"])), (("a", "b"), ("c",)))
        net = net_of("abcdefg", ["ab", "bc", "cd", "ad", "ef", "fg", "eg", "eg"])
        self.assertEqual(self.told(net), (("a", "b", "c", "d"), ("e", "f", "g")))

    def test_costs_do_not_count(self):
        for cost in (0, -5, 10**30 - 1):
            self.assertEqual(self.told((("a", "b"), (("t", "a", "b", cost),))), (("a", "b"),))

    def test_pieces_rise_as_tuples(self):
        net = net_of(("a", "aa", "ab", "b"), [("a", "b"), ("aa", "ab")])
        self.assertEqual(self.told(net), (("a", "b"), ("aa", "ab")))

    def test_all_nets_of_four_places_and_a_missing_one(self):
        pairs = ["".join(pair) for pair in itertools.combinations("abcde", 2)]
        for choice in itertools.product((False, True), repeat=len(pairs)):
            net = net_of("abde", list(itertools.compress(pairs, choice)))
            self.assertEqual(self.told(net), merged(net), msg=repr(net))

    def test_a_chain_far_beyond_the_bounds(self):
        net = long_chain(2500)
        self.assertEqual(pieces(net), (net[0],))
        self.assertEqual(pieces((net[0], ())), tuple([(place,) for place in net[0]]))
