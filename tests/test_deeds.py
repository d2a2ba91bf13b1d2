import itertools
import unittest

from cheaptree.cheapest import cheapest
from cheaptree.deeds import changed, is_deed
from cheaptree.errors import NoDeed, NoPlace, NoTie, Taken, TreeError
from cheaptree.nets import empty, is_net, open_ties, waiting
from tests.reckoning import drawn, small_nets
from tests.things import kind, no_words, of_no_text

DEEDS = (
    ("place", "p"), ("leave", "p"), ("tie", "t", "a", "b", 5), ("tie", "t", "b", "a", 5), ("untie", "t"),
    ("cost", "t", 5), ("tie", "t", "t", "a", 0), ("tie", "abcdefgh", "zzzzzzzz", "aaaaaaaa", -(10**30) + 1),
    ("cost", "abcdefgh", 10**30 - 1), ("cost", "t", 0), ("cost", "t", -1), ("place", "place"), ("leave", "leave"),
    ("tie", "tie", "tie", "cost", 1), ("untie", "untie"), ("cost", "cost", 1), ("place", "abcdefgh"), ("leave", "z"),
)
# Of each deed: at which places a word stands, and at which a cost.
PARTS = {"place": ((1,), ()), "leave": ((1,), ()), "tie": ((1, 2, 3), (4,)), "untie": ((1,), ()), "cost": ((1,), (2,))}

NET = (("a", "b", "c"), (("ab", "a", "b", 3), ("b", "b", "c", -4), ("bx", "b", "x", 1), ("xy", "x", "y", 0)))


def no_deeds():
    """Things that are no deeds, some of them nearly."""
    told = no_words() + [DEEDS, (DEEDS[0],), DEEDS[:2], {DEEDS[0]: 1}]
    for deed in DEEDS:
        words, costs = PARTS[deed[0]]
        told += [list(deed), deed[:-1], deed[1:], deed + (1,), deed + ("a",), deed + (None,), deed[:1], (deed, deed)]
        told += [(thing,) + deed[1:] for thing in no_words() + ["tied", "plac", "places", "Place", "p", "back", "net"]]
        told += [deed[:k] + (thing,) + deed[k + 1:] for k in words for thing in no_words()]
        told += [deed[:k] + (thing,) + deed[k + 1:] for k in costs for thing in ["", "1", "a", "-1", "05"]]
        wrong_costs = [thing for thing in of_no_text() if isinstance(thing, bool) or not isinstance(thing, int)]
        told += [deed[:k] + (thing,) + deed[k + 1:] for k in costs for thing in wrong_costs]
    told += [("tie", "t", word, word, 1) for word in ("a", "t", "abcdefgh")]
    told += [("tie", "t", "a", "b"), ("tie", "t", "a", 5), ("tie", ("t", "a", "b", 5)), ("tie", "t", ("a", "b"), 5)]
    return told + [("place",), ("place", "p", "q"), ("cost", "t"), ("cost", 5, "t"), ("cost", "t", 5, 5), ("untie",)]


class IsDeedTest(unittest.TestCase):
    def test_deeds(self):
        for deed in DEEDS:
            self.assertIs(is_deed(deed), True, msg=repr(deed))
            self.assertIs(is_deed(deed), True, msg=repr(deed))

    def test_each_word_as_each_part(self):
        for word in ("a", "z", "abcdefgh", "place", "cost"):
            for first in ("place", "leave", "untie"):
                self.assertIs(is_deed((first, word)), True)
                self.assertIs(is_deed((first, word + "ABCDEFGH")), False)
                self.assertIs(is_deed((first, word, word)), False)
                self.assertIs(is_deed((first, word, 1)), False)
            self.assertIs(is_deed(("cost", word, 1)), True)

    def test_the_places_of_a_tie_are_unlike_in_either_order(self):
        for one, other in itertools.product(("a", "aa", "ab", "b", "zzzzzzzz"), repeat=2):
            self.assertIs(is_deed(("tie", "t", one, other, 1)), one != other)

    def test_no_deeds(self):
        for thing in no_deeds():
            self.assertIs(is_deed(thing), False, msg=kind(thing))

    def test_what_is_handed_in_is_not_changed(self):
        walked, listed = iter(("place", "p")), ["place", "p"]
        self.assertIs(is_deed(walked), False)
        self.assertIs(is_deed(listed), False)
        self.assertEqual((list(walked), listed), (["place", "p"], ["place", "p"]))


class ChangedTest(unittest.TestCase):
    def told(self, net, *deed):
        """The net behind the deed, a net; the net handed in is as it was."""
        as_it_was = repr((net, deed))
        told = changed(net, deed)
        self.assertEqual(changed(net, deed), told)
        self.assertEqual(repr((net, deed)), as_it_was)
        self.assertIs(is_net(told), True, msg=repr((net, deed)))
        return told

    def refused(self, error, net, deed):
        as_it_was = repr(net)
        for _ in range(2):
            with self.assertRaises(TreeError, msg=kind(deed)) as caught:
                changed(net, deed)
            self.assertIs(type(caught.exception), error, msg=kind(deed))
        self.assertEqual(repr(net), as_it_was)

    def test_a_place_comes(self):
        self.assertEqual(self.told(empty(), "place", "p"), (("p",), ()))
        self.assertEqual(self.told(NET, "place", "aa"), (("a", "aa", "b", "c"), NET[1]))
        self.assertEqual(self.told(NET, "place", "z"), (("a", "b", "c", "z"), NET[1]))
        self.assertEqual(self.told((("b",), ()), "place", "a"), (("a", "b"), ()))

    def test_a_place_comes_for_which_ties_wait(self):
        net = self.told(NET, "place", "x")
        self.assertEqual(net, (("a", "b", "c", "x"), NET[1]))
        self.assertEqual((open_ties(net), waiting(net)), (("ab", "b", "bx"), ("xy",)))
        net = self.told(net, "place", "y")
        self.assertEqual((open_ties(net), waiting(net)), (("ab", "b", "bx", "xy"), ()))

    def test_a_place_leaves_and_its_ties_wait(self):
        net = self.told(NET, "leave", "a")
        self.assertEqual(net, (("b", "c"), NET[1]))
        self.assertEqual((open_ties(net), waiting(net)), (("b",), ("ab", "bx", "xy")))
        net = self.told(NET, "leave", "b")
        self.assertEqual(net, (("a", "c"), NET[1]))
        self.assertEqual((open_ties(net), waiting(net)), ((), ("ab", "b", "bx", "xy")))
        self.assertEqual(self.told((("p",), ()), "leave", "p"), empty())

    def test_a_tie_comes(self):
        tie = ("ac", "a", "c", 9)
        wanted = (NET[0], (NET[1][0], tie) + NET[1][1:])
        self.assertEqual(self.told(NET, "tie", "ac", "a", "c", 9), wanted)
        self.assertEqual(self.told(NET, "tie", "ac", "c", "a", 9), wanted)
        self.assertEqual(self.told(empty(), "tie", "t", "q", "p", -1), ((), (("t", "p", "q", -1),)))

    def test_a_tie_comes_with_places_that_are_not_there(self):
        for one, other in (("a", "z"), ("z", "a"), ("y", "z"), ("z", "y")):
            net = self.told(NET, "tie", "zz", one, other, 10**30 - 1)
            self.assertEqual(net, (NET[0], NET[1] + (("zz", min(one, other), max(one, other), 10**30 - 1),)))
            self.assertIn("zz", waiting(net))

    def test_a_parallel_tie_comes(self):
        self.assertEqual(self.told(NET, "tie", "aa", "b", "a", 3), (NET[0], (("aa", "a", "b", 3),) + NET[1]))

    def test_a_tie_goes(self):
        for k, tie in enumerate(NET[1]):
            self.assertEqual(self.told(NET, "untie", tie[0]), (NET[0], NET[1][:k] + NET[1][k + 1:]))

    def test_a_tie_costs(self):
        for k, tie in enumerate(NET[1]):
            for cost in (tie[3], 0, -7, 10**30 - 1):
                wanted = (NET[0], NET[1][:k] + (tie[:3] + (cost,),) + NET[1][k + 1:])
                self.assertEqual(self.told(NET, "cost", tie[0], cost), wanted)
            self.assertEqual(self.told(NET, "cost", tie[0], tie[3]), NET)

    def test_no_deed(self):
        for thing in no_deeds():
            self.refused(NoDeed, NET, thing)
        for thing in of_no_text():
            self.refused(NoDeed, empty(), thing)

    def test_taken(self):
        for place in NET[0]:
            self.refused(Taken, NET, ("place", place))
        for tie in NET[1]:
            self.refused(Taken, NET, ("tie",) + tie)
            self.refused(Taken, NET, ("tie", tie[0], "z", "q", 1))
            self.refused(Taken, NET, ("tie", tie[0], "c", "a", 1))

    def test_no_place(self):
        for place in ("x", "y", "ab", "aa", "zz"):
            self.refused(NoPlace, NET, ("leave", place))
        self.refused(NoPlace, empty(), ("leave", "a"))

    def test_no_tie(self):
        for name in ("a", "c", "x", "zz", "abc"):
            self.refused(NoTie, NET, ("untie", name))
            self.refused(NoTie, NET, ("cost", name, 1))
        self.refused(NoTie, empty(), ("untie", "t"))
        self.refused(NoTie, empty(), ("cost", "t", 1))

    def test_no_deed_comes_ahead_of_the_other_refusals(self):
        for deed in (("place", "a", 1), ("leave", "zz", 1), ("tie", "ab", "a", "a", 1), ("tie", "ab", "a", "b", True),
                     ("tie", "ab", "a", "b"), ("untie", "zz", 1), ("cost", "zz", "1"), ("cost", "zz", None),
                     ["place", "a"], ["untie", "zz"], ("tie", "ab", "A", "b", 1)):
            self.refused(NoDeed, NET, deed)

    def test_a_place_and_a_tie_may_bear_the_same_word(self):
        net = self.told(NET, "place", "ab")
        self.assertEqual(net, (("a", "ab", "b", "c"), NET[1]))
        net = self.told(net, "tie", "a", "a", "c", 1)
        self.assertEqual(net[1][0], ("a", "a", "c", 1))
        self.assertEqual(self.told(net, "leave", "a")[1], net[1])
        self.assertEqual(self.told(net, "untie", "a")[0], net[0])
        self.assertEqual(self.told(NET, "leave", "b"), (("a", "c"), NET[1]))
        self.assertEqual(self.told(NET, "untie", "b"), (NET[0], (NET[1][0],) + NET[1][2:]))

    def test_a_deed_and_the_one_that_undoes_it(self):
        for net in small_nets(150):
            for place in net[0]:
                self.assertEqual(self.told(self.told(net, "leave", place), "place", place), net)
            for tie in net[1]:
                self.assertEqual(self.told(self.told(net, "untie", tie[0]), "tie", *tie), net)
                self.assertEqual(self.told(self.told(net, "cost", tie[0], 77), "cost", tie[0], tie[3]), net)

    def test_the_same_places_and_ties_in_whatever_order_they_came(self):
        for net in small_nets(120):
            deeds = [("place", place) for place in net[0]] + [("tie",) + tie for tie in net[1]]
            figures = drawn(len(deeds))
            for _ in range(4):
                built = empty()
                for key, deed in sorted([(next(figures), deed) for deed in deeds]):
                    turned = deed[:2] + (deed[3], deed[2], deed[4]) if key % 2 and deed[0] == "tie" else deed
                    built = self.told(built, *turned)
                self.assertEqual(built, net)
                self.assertEqual(cheapest(built), cheapest(net))
