import itertools
import unittest

from cheaptree.forests import cost_of, is_forest, is_tree, way
from cheaptree.nets import empty, is_net
from tests.reckoning import all_forests, all_trees, small_nets, ways_by_trying
from tests.things import kind, long_chain, no_words

# Two pieces of more than one place (a, b, c and d, e), a place without ties, parallel ties, and two that wait.
NET = (
    ("a", "b", "c", "d", "e", "f"),
    (
        ("ab", "a", "b", 3), ("ac", "a", "c", -5), ("bc", "b", "c", 0), ("de", "d", "e", 10**30 - 1),
        ("dex", "d", "e", 2), ("fy", "f", "y", 4), ("xy", "x", "y", 1 - 10**30),
    ),
)
TREE = ("ab", "ac", "de")
OPEN = ("ab", "ac", "bc", "de", "dex")


def asked(test, question, net, thing):
    """What is told of a thing: the very True or False, the same when asked again."""
    told = question(net, thing)
    test.assertIsInstance(told, bool, msg=kind(thing))
    test.assertIs(question(net, thing), told, msg=kind(thing))
    return told


def wrong_things():
    """Things that are neither forests nor trees of NET."""
    parts = [[part] for part in no_words()] + [["zz"], ["b"], ["a"], ["d"], ["abc"], ["fy"], ["xy"]]
    told = [thing for thing in no_words() if not (isinstance(thing, tuple) and len(thing) == 0)]
    told += [tuple(part) for part in parts] + [tuple(part + ["de"]) for part in parts]
    told += [tuple(["ab"] + part) for part in parts] + [tuple(["ab", "ac"] + part + ["de"]) for part in parts]
    told += [list(TREE), ["ab"], [TREE], (TREE,), (TREE, TREE), TREE + (TREE,), {"ab": 1}, {"ab"}, "ab", iter(TREE)]
    told += [("ac", "ab", "de"), ("de", "ac", "ab"), ("ab", "ab"), ("ab", "ab", "ac", "de"), ("ab", "ac", "de", "de")]
    return told + [dict.fromkeys(TREE), NET, NET[0], NET[1], NET[1][:1], NET[1][0]]


class IsForestTest(unittest.TestCase):
    def told(self, net, thing):
        return asked(self, is_forest, net, thing)

    def test_no_ties_are_a_forest_of_every_net(self):
        for net in (empty(), NET, (("a",), ()), ((), (("t", "a", "b", 1),)), long_chain(3)):
            self.assertIs(self.told(net, ()), True)
        for net in small_nets(50):
            self.assertIs(self.told(net, ()), True)

    def test_without_a_round(self):
        for names in (("ab",), ("ab", "ac"), ("ab", "bc"), ("ac", "bc"), ("de",), ("dex",), ("bc", "dex"), TREE):
            self.assertIs(self.told(NET, names), True)

    def test_with_a_round(self):
        for names in (("ab", "ac", "bc"), ("de", "dex"), ("ab", "de", "dex"), ("ab", "ac", "bc", "de"), OPEN):
            self.assertIs(self.told(NET, names), False)

    def test_not_rising_or_a_name_twice(self):
        for many in range(4):
            for names in itertools.product(("ab", "ac", "de", "dex"), repeat=many):
                wanted = list(names) == sorted(set(names)) and not {"de", "dex"} <= set(names)
                self.assertIs(self.told(NET, names), wanted, msg=repr(names))

    def test_names_that_wait_or_are_not_there(self):
        for name in ("fy", "xy", "a", "b", "f", "y", "zz", "abc", "", "AB"):
            for names in ((name,), tuple(sorted(("bc", name))), tuple(sorted(("ab", "de", name)))):
                self.assertIs(self.told(NET, names), False, msg=repr(names))

    def test_wrong_things(self):
        for thing in wrong_things():
            self.assertIs(self.told(NET, thing), False, msg=kind(thing))
            self.assertIs(self.told(empty(), thing), False, msg=kind(thing))

    def test_all_sets_of_ties_of_many_nets(self):
        for net in small_nets(150):
            forests = all_forests(net)
            names = [tie[0] for tie in net[1]]
            for size in range(len(names) + 1):
                for choice in itertools.combinations(names, size):
                    self.assertIs(is_forest(net, choice), choice in forests, msg=f"{net} {choice}")
                    self.assertIs(is_forest(net, list(choice)), False)

    def test_what_is_handed_in_is_not_changed(self):
        walked, listed = iter(["ab", "ac"]), ["ab", "ac"]
        for question in (is_forest, is_tree):
            self.assertIs(question(NET, walked), False)
            self.assertIs(question(NET, listed), False)
        self.assertEqual((list(walked), listed), (["ab", "ac"], ["ab", "ac"]))


class IsTreeTest(unittest.TestCase):
    def told(self, net, thing):
        return asked(self, is_tree, net, thing)

    def test_nets_without_open_ties(self):
        for net in (empty(), (("a",), ()), (("a", "b", "c"), ()), (("a", "b"), (("t", "a", "x", 1),))):
            self.assertIs(self.told(net, ()), True)
            self.assertIs(self.told(net, ("t",)), False)

    def test_one_piece(self):
        net = (("a", "b", "c"), (("s", "a", "b", 1), ("t", "b", "c", 9), ("u", "a", "c", 1)))
        for names in (("s", "t"), ("s", "u"), ("t", "u")):
            self.assertIs(self.told(net, names), True)
        for names in ((), ("s",), ("t",), ("u",), ("s", "t", "u")):
            self.assertIs(self.told(net, names), False)

    def test_several_pieces(self):
        for first in (("ab", "ac"), ("ab", "bc"), ("ac", "bc")):
            for second in ("de", "dex"):
                self.assertIs(self.told(NET, first + (second,)), True)

    def test_a_tie_less_or_more(self):
        for name in TREE:
            self.assertIs(self.told(NET, tuple([other for other in TREE if other != name])), False)
        for name in ("bc", "dex", "fy", "xy", "zz"):
            self.assertIs(self.told(NET, tuple(sorted(TREE + (name,)))), False)

    def test_a_tie_exchanged(self):
        trees = all_trees(NET)
        for name, other in itertools.product(TREE, ("bc", "dex", "fy", "xy", "zz")):
            names = tuple(sorted([other if each == name else each for each in TREE]))
            wanted = (name, other) in (("ab", "bc"), ("ac", "bc"), ("de", "dex"))
            self.assertIs(self.told(NET, names), wanted)
            self.assertIs(names in trees, wanted)

    def test_forests_that_are_no_trees(self):
        for names in ((), ("ab",), ("ab", "ac"), ("ab", "de"), ("de",)):
            self.assertIs(is_forest(NET, names), True)
            self.assertIs(self.told(NET, names), False)

    def test_the_same_not_rising_or_a_name_twice(self):
        for names in itertools.permutations(TREE):
            self.assertIs(self.told(NET, names), names == TREE)
        for names in itertools.product(TREE, repeat=4):
            self.assertIs(self.told(NET, names), False)

    def test_wrong_things(self):
        for thing in wrong_things() + [()]:
            self.assertIs(self.told(NET, thing), False, msg=kind(thing))

    def test_all_sets_of_ties_of_many_nets(self):
        for net in small_nets(150):
            trees = all_trees(net)
            names = [tie[0] for tie in net[1]]
            for size in range(len(names) + 1):
                for choice in itertools.combinations(names, size):
                    self.assertIs(is_tree(net, choice), choice in trees, msg=f"{net} {choice}")
                    self.assertIs(is_tree(net, list(choice)), False)

    def test_a_chain_far_beyond_the_bounds(self):
        net = long_chain(800)
        names = tuple([tie[0] for tie in net[1]])
        self.assertIs(is_tree(net, names), True)
        self.assertIs(is_tree(net, names[1:]), False)
        self.assertIs(is_forest(net, names[1:]), True)


class CostOfTest(unittest.TestCase):
    def told(self, *names):
        told = cost_of(NET, names)
        self.assertIs(type(told), int)
        self.assertEqual(cost_of(NET, names), told)
        return told

    def test_no_names(self):
        self.assertEqual(self.told(), 0)
        self.assertEqual(cost_of(empty(), ()), 0)

    def test_one_name(self):
        for tie in NET[1]:
            self.assertEqual(self.told(tie[0]), tie[3])

    def test_names_in_any_order_open_and_waiting(self):
        costs = {tie[0]: tie[3] for tie in NET[1]}
        for many in (2, 3, 4):
            for names in itertools.permutations(costs, many):
                self.assertEqual(self.told(*names), sum([costs[name] for name in names]))

    def test_rounds_and_great_costs(self):
        self.assertEqual(self.told("ab", "ac", "bc"), -2)
        self.assertEqual(self.told("de", "dex"), 10**30 + 1)
        self.assertEqual(self.told("xy", "de"), 0)
        self.assertEqual(self.told("xy", "fy"), 5 - 10**30)


class WayTest(unittest.TestCase):
    def told(self, net, forest, one, other):
        """What way tells; back it is the same turned about."""
        self.assertIs(is_forest(net, forest), True)
        as_it_was = repr((net, forest))
        told = way(net, forest, one, other)
        self.assertEqual(way(net, forest, one, other), told)
        back = way(net, forest, other, one)
        if told is None:
            self.assertIsNone(back)
        else:
            self.assertIs(type(told), tuple)
            self.assertEqual(back, told[::-1])
        self.assertEqual(repr((net, forest)), as_it_was)
        return told

    def test_alike_places(self):
        for place in NET[0]:
            for forest in ((), ("ab",), TREE):
                self.assertEqual(self.told(NET, forest, place, place), ())

    def test_no_way(self):
        for one, other in itertools.combinations(NET[0], 2):
            self.assertIsNone(self.told(NET, (), one, other))
        for one, other in (("a", "d"), ("c", "e"), ("a", "f"), ("f", "e")):
            self.assertIsNone(self.told(NET, TREE, one, other))
        self.assertIsNone(self.told(NET, ("ab",), "a", "c"))

    def test_one_tie(self):
        self.assertEqual(self.told(NET, TREE, "a", "b"), ("ab",))
        self.assertEqual(self.told(NET, TREE, "c", "a"), ("ac",))
        self.assertEqual(self.told(NET, ("dex",), "e", "d"), ("dex",))
        self.assertEqual(self.told(NET, ("de",), "e", "d"), ("de",))

    def test_many_ties(self):
        self.assertEqual(self.told(NET, TREE, "b", "c"), ("ab", "ac"))
        self.assertEqual(self.told(NET, ("ac", "bc"), "a", "b"), ("ac", "bc"))
        places = ("a", "b", "c", "d", "e", "f", "g")
        ties = (("p", "a", "g", 1), ("q", "b", "g", 1), ("r", "b", "c", 1), ("s", "a", "d", 1), ("t", "d", "f", 1),
                ("u", "e", "f", 1), ("v", "a", "b", 0), ("w", "c", "e", 0))
        forest = ("p", "q", "r", "s", "t", "u")
        self.assertEqual(self.told((places, ties), forest, "c", "e"), ("r", "q", "p", "s", "t", "u"))
        self.assertEqual(self.told((places, ties), forest, "b", "d"), ("q", "p", "s"))
        self.assertEqual(self.told((places, ties), forest, "g", "a"), ("p",))

    def test_all_ways_of_many_nets(self):
        for net in small_nets(60):
            for forest in all_forests(net):
                for one, other in itertools.product(net[0], repeat=2):
                    wanted = ways_by_trying(net, forest, one, other)
                    told = self.told(net, forest, one, other)
                    self.assertEqual([told] if told is not None else [], wanted, msg=f"{net} {forest}")

    def test_a_chain_far_beyond_the_bounds(self):
        net = long_chain(800)
        names = tuple([tie[0] for tie in net[1]])
        self.assertEqual(way(net, names, net[0][0], net[0][-1]), names)
        self.assertIsNone(way(net, names[1:], net[0][0], net[0][-1]))


class NetTest(unittest.TestCase):
    def test_the_nets_of_these_tests_are_nets(self):
        self.assertIs(is_net(NET), True)
        for net in small_nets(500):
            self.assertIs(is_net(net), True)
