import itertools
import unittest

from cheaptree.cheapest import cheapest
from cheaptree.forests import cost_of, is_tree
from cheaptree.nets import empty, is_net
from tests.reckoning import all_trees, least_tree, opened, small_nets
from tests.things import long_chain


def called_otherwise(net, words):
    """The net with its places called by other words, each tie with its lesser place first."""
    ties = [(tie[0],) + tuple(sorted([words[tie[1]], words[tie[2]]])) + (tie[3],) for tie in net[1]]
    return (tuple(sorted([words[place] for place in net[0]])), tuple(sorted(ties)))


class CheapestTest(unittest.TestCase):
    def told(self, places, *ties):
        return self.told_of((tuple(places), tuple(ties)))

    def told_of(self, net):
        self.assertIs(is_net(net), True)
        as_it_was = repr(net)
        told = cheapest(net)
        self.assertIs(type(told), tuple)
        self.assertEqual(cheapest(net), told)
        self.assertEqual(repr(net), as_it_was)
        self.assertIs(is_tree(net, told), True, msg=repr(net))
        return told

    def test_nets_without_open_ties(self):
        self.assertEqual(self.told_of(empty()), ())
        self.assertEqual(self.told("abc"), ())
        self.assertEqual(self.told("", ("t", "a", "b", -1)), ())
        self.assertEqual(self.told("ab", ("t", "a", "x", -1), ("u", "b", "x", -1)), ())

    def test_a_round(self):
        net = [("s", "a", "b", 1), ("t", "b", "c", 2), ("u", "a", "c", 3)]
        self.assertEqual(self.told("abc", *net), ("s", "t"))
        net[1] = ("t", "b", "c", 4)
        self.assertEqual(self.told("abc", *net), ("s", "u"))

    def test_ties_that_cost_below_nought_are_no_reason_for_a_round(self):
        net = [("s", "a", "b", -1), ("t", "b", "c", -2), ("u", "a", "c", -3)]
        self.assertEqual(self.told("abc", *net), ("t", "u"))

    def test_ties_that_cost_much_are_kept_where_they_hold_together(self):
        self.assertEqual(self.told("abc", ("s", "a", "b", 10**30 - 1), ("t", "b", "c", 0)), ("s", "t"))

    def test_alike_costs_go_by_the_names(self):
        self.assertEqual(self.told("abc", ("s", "b", "c", 7), ("t", "a", "c", 7), ("u", "a", "b", 7)), ("s", "t"))
        self.assertEqual(self.told("abc", ("s", "a", "b", 7), ("t", "b", "c", 7), ("u", "a", "c", 6)), ("s", "u"))
        self.assertEqual(self.told("ab", ("b", "a", "b", 0), ("ba", "a", "b", 0), ("c", "a", "b", 0)), ("b",))

    def test_parallel_ties(self):
        self.assertEqual(self.told("ab", ("s", "a", "b", 3), ("t", "a", "b", 2), ("u", "a", "b", 2)), ("t",))
        self.assertEqual(self.told("ab", ("s", "a", "b", 10**29 + 1), ("t", "a", "b", 10**29)), ("t",))

    def test_several_pieces_and_ties_that_wait(self):
        ties = [("m", "a", "b", 4), ("n", "c", "d", 9), ("o", "c", "d", 8), ("p", "a", "y", -9), ("q", "d", "y", -9)]
        self.assertEqual(self.told("abcde", *ties), ("m", "o"))
        self.assertEqual(self.told("abcdey", *ties), ("m", "o", "p", "q"))

    def test_against_the_second_reckoning(self):
        many = 0
        for net in itertools.chain(small_nets(700), small_nets(300, 4, 7), small_nets(60, 6, 9)):
            trees = all_trees(net)
            many += len(trees) > 3
            self.assertEqual(self.told_of(net), trees[0], msg=repr(net))
            for tree in trees:
                self.assertLessEqual((cost_of(net, trees[0]), trees[0]), (cost_of(net, tree), tree))
        self.assertGreater(many, 200)

    def test_all_nets_of_four_places_that_cost_alike(self):
        pairs = list(itertools.combinations("abcd", 2))
        for order in itertools.permutations("mnopqr"):
            net = (("a", "b", "c", "d"), tuple(sorted([(name,) + pair + (5,) for name, pair in zip(order, pairs)])))
            self.assertEqual(cheapest(net), least_tree(net))

    def test_the_same_ties_with_places_called_otherwise(self):
        for net in small_nets(40):
            wanted = cheapest(net)
            for words in itertools.permutations(("abcdefgh", "m", "ab", "b", "zz", "a")):
                other = called_otherwise(net, dict(zip("abcdef", words)))
                self.assertEqual(cheapest(other), wanted, msg=f"{net} {other}")

    def test_what_waits_does_not_count(self):
        for net in small_nets(200):
            self.assertEqual(cheapest((net[0], tuple(opened(net)))), cheapest(net))

    def test_a_chain_far_beyond_the_bounds(self):
        net = long_chain(500)
        self.assertEqual(cheapest(net), tuple([tie[0] for tie in net[1]]))

    def test_the_full_bounds(self):
        words = "abcdefghijkl"
        pairs = list(itertools.combinations(words, 2))[:30]
        ties = tuple(sorted([("t" + one + other, one, other, ord(one) * 31 % 7) for one, other in pairs]))
        self.assertEqual(len(self.told_of((tuple(words), ties))), 11)
