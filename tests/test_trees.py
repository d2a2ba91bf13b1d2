import itertools
import unittest

from cheaptree.cheapest import cheapest
from cheaptree.counting import how_many
from cheaptree.errors import NoTree, TreeError
from cheaptree.forests import cost_of, is_tree
from cheaptree.nets import empty, is_net
from cheaptree.trees import tree_at, trees
from tests.reckoning import all_trees, full_nets, small_nets
from tests.things import some_words

NET = (
    ("a", "b", "c", "d"),
    (("ab", "a", "b", 3), ("abx", "a", "b", 3), ("ac", "a", "c", 5), ("bc", "b", "c", 4), ("cx", "c", "x", -9)),
)
WITHOUT = (empty(), (("a",), ()), (("a", "b", "c"), ()), ((), (("t", "a", "b", 1),)), (("a",), (("t", "a", "b", 1),)))


def every_pair_tied(many, cost):
    words = "abcdefgh"[:many]
    ties = [(one + other, one, other, cost) for one, other in itertools.combinations(words, 2)]
    return (tuple(words), tuple(ties))


class TreesTest(unittest.TestCase):
    def told(self, net, many):
        self.assertIs(is_net(net), True)
        as_it_was = repr(net)
        told = trees(net, many)
        self.assertEqual(trees(net, many), told)
        self.assertEqual(repr(net), as_it_was)
        self.assertIs(type(told), tuple)
        for tree in told:
            self.assertIs(type(tree), tuple)
            self.assertLessEqual({type(name) for name in tree}, {str})
        return told

    def test_plain_ones(self):
        wanted = (("ab", "bc"), ("abx", "bc"), ("ab", "ac"), ("abx", "ac"), ("ac", "bc"))
        for many in range(8):
            self.assertEqual(self.told(NET, many), wanted[:many])

    def test_nets_without_open_ties_have_one_tree(self):
        for net in WITHOUT:
            self.assertEqual(self.told(net, 0), ())
            for many in (1, 2, 200):
                self.assertEqual(self.told(net, many), ((),))

    def test_of_the_same_cost_as_tuples_rise(self):
        net = every_pair_tied(4, 7)
        told = self.told(net, 200)
        self.assertEqual(len(told), 16)
        self.assertEqual(list(told), sorted(told))
        # Cost decides ahead of the names, whatever the costs: below nought, and of thirty figures.
        for cost in (-1, 0, -(10**29), 10**30 - 2):
            ties = [(name, "a", "b", cost) for name in ("m", "o", "q")] + [("n", "a", "b", cost + 1), ("z", "a", "b", cost - 1)]
            self.assertEqual(self.told((("a", "b"), tuple(sorted(ties))), 9), (("z",), ("m",), ("o",), ("q",), ("n",)))

    def test_a_lesser_tuple_may_hold_a_greater_name(self):
        ties = (("a", "k", "l", 1), ("b", "k", "m", 2), ("c", "k", "m", 3), ("d", "k", "l", 2))
        wanted = (("a", "b"), ("a", "c"), ("b", "d"), ("c", "d"))
        self.assertEqual(self.told((("k", "l", "m"), ties), 9), wanted)

    def test_against_trying_all(self):
        for net in itertools.chain(small_nets(300), small_nets(40, 6, 10)):
            wanted = tuple(all_trees(net))
            for many in (0, 1, 2, 3, len(wanted) - 1, len(wanted), len(wanted) + 1, 10**9):
                self.assertEqual(trees(net, many), wanted[:many], msg=repr(net))
            self.assertEqual(self.told(net, len(wanted)), wanted)
            self.assertEqual(how_many(net), len(wanted))
            self.assertEqual(wanted[0], cheapest(net))

    def test_two_hundred_of_far_more(self):
        seen = []
        for net in full_nets(10):
            wanted = tuple(all_trees(net))
            seen.append(len(wanted))
            self.assertEqual(self.told(net, 200), wanted[:200])
        self.assertGreater(max(seen), 500)
        net = every_pair_tied(8, 1)
        told = self.told(net, 50)
        self.assertEqual(told, tuple(sorted(told)))
        self.assertEqual(told[0], tuple(["a" + word for word in "bcdefgh"]))
        self.assertEqual(len(set(told)), 50)

    def test_all_of_full_nets(self):
        for net in full_nets(3):
            self.assertEqual(trees(net, 10**6), tuple(all_trees(net)))

    def test_each_is_a_tree_and_less_than_the_next(self):
        for net in small_nets(100, 7, 12):
            told = self.told(net, 30)
            self.assertEqual([is_tree(net, tree) for tree in told], [True] * len(told))
            keys = [(cost_of(net, tree), tree) for tree in told]
            self.assertEqual([low < high for low, high in zip(keys, keys[1:])], [True] * (len(keys) - 1))


class TreeAtTest(unittest.TestCase):
    def told(self, net, k):
        as_it_was = repr(net)
        told = tree_at(net, k)
        self.assertEqual(tree_at(net, k), told)
        self.assertEqual(repr(net), as_it_was)
        self.assertIs(type(told), tuple)
        return told

    def none(self, net, k):
        with self.assertRaises(TreeError) as caught:
            tree_at(net, k)
        self.assertIs(type(caught.exception), NoTree)

    def test_place_nought_is_the_cheapest_tree(self):
        for net in itertools.chain([NET], WITHOUT, small_nets(150)):
            self.assertEqual(self.told(net, 0), cheapest(net))

    def test_each_place(self):
        for net in itertools.chain([NET], WITHOUT, small_nets(100)):
            wanted = all_trees(net)
            self.assertEqual([self.told(net, k) for k in range(len(wanted))], wanted)
            for k in (len(wanted), len(wanted) + 1, len(wanted) + 199, 10**30):
                self.none(net, k)

    def test_nets_of_full_size(self):
        for net in full_nets(4):
            wanted = all_trees(net)
            for k in (0, 1, 77, min(199, len(wanted) - 1), len(wanted) - 1):
                self.assertEqual(self.told(net, k), wanted[k])
            for k in (len(wanted), 3432, 10**9):
                self.none(net, k)

    def test_far_behind_the_last_one_of_very_many(self):
        net = every_pair_tied(8, 1)
        self.none(net, 8**6)
        self.none(net, 10**30)

    def test_parallel_ties(self):
        names = some_words(14)
        ties = [(name, "a", "b", 5) for name in names]
        for k in range(14):
            self.assertEqual(self.told((("a", "b"), tuple(ties)), k), (names[k],))
        self.none((("a", "b"), tuple(ties)), 14)
