import unittest

from cheaptree.cheapest import cheapest
from cheaptree.nets import empty, is_net
from cheaptree.papers import cuts, ways
from tests.reckoning import (
    crossing, groups, leads, least_tree, opened, rank, small_nets, ties_by_name, ways_by_trying,
)

NET = (
    ("a", "b", "c", "d", "e", "f"),
    (
        ("ab", "a", "b", 3), ("ac", "a", "c", -5), ("bc", "b", "c", 9), ("cd", "c", "d", 9), ("bd", "b", "d", 9),
        ("de", "d", "e", 4), ("dex", "d", "e", 2), ("fy", "f", "y", 4), ("xy", "x", "y", 1 - 10**30),
    ),
)
NET = (NET[0], tuple(sorted(NET[1])))
NONE = (
    empty(), (("a",), ()), (("a", "b"), ()), ((), (("t", "a", "b", 1),)),
    (("a", "b"), (("s", "a", "x", 1), ("t", "b", "x", 1), ("u", "x", "y", 1))),
)


class PapersTest(unittest.TestCase):
    def told(self, question, net):
        """What is told: a rising tuple of pairs of a name and a tuple of texts, the same when asked again."""
        self.assertIs(is_net(net), True)
        as_it_was = repr(net)
        told = question(net)
        self.assertEqual(question(net), told)
        self.assertEqual(repr(net), as_it_was)
        self.assertIs(type(told), tuple)
        for pair in told:
            self.assertIs(type(pair), tuple)
            self.assertEqual([type(part) for part in pair], [str, tuple])
            self.assertEqual({type(word) for word in pair[1]}, {str})
        names = [pair[0] for pair in told]
        self.assertEqual(names, sorted(set(names)))
        return told


class WaysTest(PapersTest):
    def test_a_plain_net(self):
        self.assertEqual(cheapest(NET), ("ab", "ac", "bd", "dex"))
        told = self.told(ways, NET)
        self.assertEqual(told, (("bc", ("ab", "ac")), ("cd", ("ac", "ab", "bd")), ("de", ("dex",))))

    def test_a_way_goes_from_the_lesser_place(self):
        net = (("a", "b", "c"), (("p", "b", "c", 1), ("q", "a", "b", 2), ("r", "a", "c", 3)))
        self.assertEqual(self.told(ways, net), (("r", ("q", "p")),))

    def test_nets_without_such_ties(self):
        for net in NONE + ((("a", "b"), (("t", "a", "b", 1),)), (NET[0], NET[1][:2])):
            self.assertEqual(self.told(ways, net), ())

    def test_many_nets(self):
        for net in small_nets(300):
            tree, named = least_tree(net), ties_by_name(net)
            told = self.told(ways, net)
            self.assertEqual([pair[0] for pair in told], [tie[0] for tie in opened(net) if tie[0] not in tree])
            for name, along in told:
                one, other = named[name][1:3]
                self.assertTrue(leads(net, along, one, other), msg=repr(net))
                self.assertEqual([along], ways_by_trying(net, tree, one, other), msg=repr(net))
                self.assertTrue(all(rank(net, step) < rank(net, name) for step in along), msg=repr(net))


class CutsTest(PapersTest):
    def test_a_plain_net(self):
        wanted = (("ab", ("a", "c")), ("ac", ("a", "b", "d", "e")), ("bd", ("a", "b", "c")), ("dex", ("a", "b", "c", "d")))
        self.assertEqual(self.told(cuts, NET), wanted)

    def test_nets_without_such_ties(self):
        for net in NONE:
            self.assertEqual(self.told(cuts, net), ())

    def test_many_nets(self):
        for net in small_nets(400):
            tree, named = least_tree(net), ties_by_name(net)
            told = self.told(cuts, net)
            self.assertEqual(tuple([pair[0] for pair in told]), tree)
            for name, side in told:
                others = [named[other] for other in tree if other != name]
                held = [group for group in groups(net[0], others)[0] if named[name][1] in group]
                self.assertEqual([list(side)], held, msg=repr(net))
                self.assertNotIn(named[name][2], side)
                self.assertEqual(min(crossing(net, side), key=lambda each: rank(net, each)), name)
