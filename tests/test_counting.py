import itertools
import math
import unittest

from cheaptree.counting import how_many
from cheaptree.nets import empty, is_net
from tests.reckoning import all_trees, full_nets, small_nets
from tests.things import long_chain, some_words


class CountingTest(unittest.TestCase):
    def told(self, net):
        self.assertIs(is_net(net), True)
        as_it_was = repr(net)
        told = how_many(net)
        self.assertEqual(how_many(net), told)
        self.assertEqual(repr(net), as_it_was)
        self.assertIs(type(told), int)
        return told

    def test_one_where_there_are_no_open_ties(self):
        for net in (empty(), (("a",), ()), (("a", "b", "c"), ()), ((), (("t", "a", "b", 1),))):
            self.assertEqual(self.told(net), 1)
        self.assertEqual(self.told((("a", "b"), (("s", "a", "x", 1), ("t", "b", "x", 1)))), 1)

    def test_parallel_ties(self):
        for many in range(1, 15):
            ties = [(name, "a", "b", 5) for name in some_words(many)]
            self.assertEqual(self.told((("a", "b"), tuple(ties))), many)

    def test_a_round_lacks_one_of_its_ties(self):
        for many in range(3, 9):
            words = "abcdefgh"[:many]
            ties = [(one + other, one, other, 1) for one, other in zip(words, words[1:])] + [("z", "a", words[-1], 1)]
            self.assertEqual(self.told((tuple(words), tuple(ties))), many)
        self.assertEqual(self.told(long_chain(30)), 1)

    def test_pieces_choose_each_for_itself(self):
        ties = [(name, "a", "b", 1) for name in "mno"] + [(name, "c", "d", 1) for name in "pq"] + [("r", "e", "y", 1)]
        self.assertEqual(self.told((tuple("abcde"), tuple(ties))), 6)

    def test_every_pair_tied(self):
        # Cayley: of n places n to the power of n - 2 trees; of two sorts of places, p and q, another formula.
        for many in range(2, 10):
            words = "abcdefghi"[:many]
            ties = [(one + other, one, other, 1) for one, other in itertools.combinations(words, 2)]
            self.assertEqual(self.told((tuple(words), tuple(ties))), many ** (many - 2))
        for p, q in itertools.product(range(1, 5), repeat=2):
            ties = [(one + other, one, other, 1) for one in "abcd"[:p] for other in "efgh"[:q]]
            places = tuple("abcd"[:p] + "efgh"[:q])
            self.assertEqual(self.told((places, tuple(ties))), p ** (q - 1) * q ** (p - 1))

    def test_costs_change_nothing(self):
        for cost in (0, -1, 10**30 - 1):
            ties = (("s", "a", "b", cost), ("t", "a", "b", -cost), ("u", "b", "c", 3), ("v", "b", "c", 3))
            self.assertEqual(self.told((("a", "b", "c"), ties)), 4)

    def test_against_trying_all(self):
        counts = set()
        for net in itertools.chain(small_nets(250), small_nets(60, 6, 10), small_nets(20, 8, 14), full_nets(8)):
            told = self.told(net)
            self.assertEqual(told, len(all_trees(net)), msg=repr(net))
            counts.add(told)
        self.assertGreater(len(counts), 30)
        self.assertGreater(max(counts), math.comb(9, 4))
