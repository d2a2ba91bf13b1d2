import itertools
import unittest

from cheaptree.deeds import changed
from cheaptree.errors import NoTie, TreeError
from cheaptree.margins import margin
from cheaptree.nets import empty, is_net
from tests.reckoning import least_tree, opened, small_nets

NET = (
    ("a", "b", "c", "d"),
    (("ab", "a", "b", 3), ("ac", "a", "c", 5), ("bc", "b", "c", 4), ("cd", "c", "d", 9), ("cx", "c", "x", 2)),
)


class MarginTest(unittest.TestCase):
    def told(self, net, name):
        self.assertIs(is_net(net), True)
        as_it_was = repr(net)
        told = margin(net, name)
        self.assertEqual(margin(net, name), told)
        self.assertEqual(repr(net), as_it_was)
        self.assertIs(type(told), tuple)
        self.assertIn([type(part) for part in told], ([str], [str, int, str], [str, type(None), type(None)]))
        return told

    def tree_at(self, net, name, cost):
        return set(least_tree(changed(net, ("cost", name, cost))))

    def test_waiting_ties(self):
        self.assertEqual(self.told(NET, "cx"), ("waits",))
        self.assertEqual(self.told(((), (("t", "a", "b", 1),)), "t"), ("waits",))
        self.assertEqual(self.told((("a",), (("t", "a", "b", 1),)), "t"), ("waits",))
        self.assertEqual(self.told((("b",), (("t", "a", "b", 1),)), "t"), ("waits",))

    def test_plain_ones(self):
        self.assertEqual(self.told(NET, "ab"), ("stays", 5, "ac"))
        self.assertEqual(self.told(NET, "bc"), ("stays", 4, "ac"))
        self.assertEqual(self.told(NET, "cd"), ("stays", None, None))
        self.assertEqual(self.told(NET, "ac"), ("comes", 4, "bc"))

    def test_the_name_decides_where_costs_are_alike(self):
        for low, high in ((0, 0), (7, 7), (-3, -3), (10**30 - 1, 10**30 - 1)):
            net = (("a", "b"), (("s", "a", "b", low), ("t", "a", "b", high)))
            self.assertEqual(self.told(net, "s"), ("stays", low, "t"))
            self.assertEqual(self.told(net, "t"), ("comes", low - 1, "s"))
        net = (("a", "b"), (("s", "a", "b", 9), ("t", "a", "b", 4)))
        self.assertEqual(self.told(net, "s"), ("comes", 4, "t"))
        self.assertEqual(self.told(net, "t"), ("stays", 8, "s"))

    def test_of_several_other_ones_the_cheapest_comes_in_and_the_dearest_leaves(self):
        ties = (("m", "a", "b", 6), ("n", "a", "b", 6), ("o", "a", "b", 2), ("p", "b", "c", 4), ("q", "a", "c", 9))
        net = (("a", "b", "c"), ties)
        self.assertEqual(self.told(net, "o"), ("stays", 5, "m"))
        self.assertEqual(self.told(net, "p"), ("stays", 9, "q"))
        self.assertEqual(self.told(net, "q"), ("comes", 3, "p"))
        self.assertEqual(self.told(net, "m"), ("comes", 2, "o"))
        self.assertEqual(self.told(net, "n"), ("comes", 2, "o"))

    def test_no_such_tie(self):
        for net, names in ((NET, ("a", "x", "zz", "abc")), (empty(), ("a",)), ((("a", "b"), ()), ("a", "ab"))):
            for name in names:
                with self.assertRaises(TreeError) as caught:
                    margin(net, name)
                self.assertIs(type(caught.exception), NoTie)

    def test_many_nets(self):
        seen = set()
        for net in itertools.chain(small_nets(250), small_nets(150, 4, 6)):
            tree = set(least_tree(net))
            there = [tie[0] for tie in opened(net)]
            for tie in net[1]:
                told = self.told(net, tie[0])
                seen.add((told[0], told[1:] == (None, None), told[1:2] == (tie[3],)))
                if tie[0] not in there:
                    self.assertEqual(told, ("waits",))
                elif tie[0] in tree:
                    self.assertEqual(told[0], "stays")
                    self.check_stays(net, tree, tie, told)
                else:
                    self.assertEqual(told[0], "comes")
                    self.check_comes(net, tree, tie, told)
        for wanted in (("waits", False, False), ("stays", True, False), ("stays", False, True), ("stays", False, False),
                       ("comes", False, False)):
            self.assertIn(wanted, seen)

    def check_stays(self, net, tree, tie, told):
        name, cost, other = tie[0], told[1], told[2]
        if cost is None:
            self.assertIsNone(other)
            for tried in (-(10**40), 0, 10**40):
                self.assertEqual(self.tree_at(net, name, tried), tree, msg=f"{net} {name}")
            return
        self.assertGreaterEqual(cost, tie[3])
        for tried in (cost, cost - 1, -(10**40)):
            self.assertEqual(self.tree_at(net, name, tried), tree, msg=f"{net} {name}")
        self.assertNotIn(other, tree)
        for tried in (cost + 1, cost + 2, 10**40):
            self.assertEqual(self.tree_at(net, name, tried), tree - {name} | {other}, msg=f"{net} {name}")

    def check_comes(self, net, tree, tie, told):
        name, cost, other = tie[0], told[1], told[2]
        self.assertLess(cost, tie[3])
        self.assertIn(other, tree)
        for tried in (cost, cost - 1, -(10**40)):
            self.assertEqual(self.tree_at(net, name, tried), tree - {other} | {name}, msg=f"{net} {name}")
        for tried in (cost + 1, 10**40):
            self.assertEqual(self.tree_at(net, name, tried), tree, msg=f"{net} {name}")
