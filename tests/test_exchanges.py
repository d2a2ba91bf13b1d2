import itertools
import unittest

from cheaptree.deeds import changed
from cheaptree.errors import NoDeed, NoPlace, NoTie, Taken, TreeError
from cheaptree.exchanges import exchange, shows_exchange
from cheaptree.nets import empty
from tests.reckoning import least_tree, small_nets
from tests.things import kind, no_words, of_no_text

NET = (
    ("a", "b", "c"),
    (("ab", "a", "b", 3), ("ac", "a", "c", 5), ("bc", "b", "c", 4), ("bx", "b", "x", 1), ("cx", "c", "x", 2)),
)


def deeds_let(net):
    """Deeds of each sort that are let in a net."""
    words = "abcdefgh"
    told = [("place", word) for word in words if word not in net[0]] + [("leave", place) for place in net[0]]
    told += [("untie", tie[0]) for tie in net[1]]
    told += [("cost", tie[0], tie[3] + more) for tie in net[1] for more in (-10**31, -3, -1, 0, 1, 3, 10**31)]
    for one, other in ("ab", "ca", "cd", "bd", "eb", "ae"):
        told += [("tie", name, one, other, cost) for name in ("aa", "zz") for cost in (-10**31, 0, 3)]
    return told


class ExchangeTest(unittest.TestCase):
    def told(self, net, *deed):
        as_it_was = repr((net, deed))
        told = exchange(net, deed)
        self.assertEqual(exchange(net, deed), told)
        self.assertEqual(repr((net, deed)), as_it_was)
        self.assertIs(type(told), tuple)
        self.assertEqual([type(part) for part in told], [tuple, tuple])
        for names in told:
            self.assertEqual(list(names), sorted(set(names)))
        self.assertIs(shows_exchange(net, deed, told), True)
        return told

    def test_plain_deeds(self):
        self.assertEqual(self.told(NET, "place", "y"), ((), ()))
        self.assertEqual(self.told(NET, "place", "x"), (("bc",), ("bx", "cx")))
        self.assertEqual(self.told(NET, "leave", "a"), (("ab",), ()))
        self.assertEqual(self.told(NET, "leave", "b"), (("ab", "bc"), ("ac",)))
        self.assertEqual(self.told(NET, "tie", "new", "c", "a", 3), (("bc",), ("new",)))
        self.assertEqual(self.told(NET, "tie", "new", "c", "a", 4), ((), ()))
        self.assertEqual(self.told(NET, "tie", "aa", "c", "a", 4), (("bc",), ("aa",)))
        self.assertEqual(self.told(NET, "untie", "ab"), (("ab",), ("ac",)))
        self.assertEqual(self.told(NET, "untie", "ac"), ((), ()))
        self.assertEqual(self.told(NET, "untie", "bx"), ((), ()))
        self.assertEqual(self.told(NET, "cost", "ab", 5), ((), ()))
        self.assertEqual(self.told(NET, "cost", "ab", 6), (("ab",), ("ac",)))
        self.assertEqual(self.told(NET, "cost", "ac", 4), (("bc",), ("ac",)))
        self.assertEqual(self.told(NET, "cost", "ab", 3), ((), ()))

    def test_the_empty_net(self):
        self.assertEqual(self.told(empty(), "place", "a"), ((), ()))
        self.assertEqual(self.told(empty(), "tie", "t", "a", "b", 1), ((), ()))

    def test_against_the_cheapest_trees_ahead_and_behind(self):
        seen = set()
        for net in small_nets(150):
            ahead = set(least_tree(net))
            for deed in deeds_let(net):
                behind = set(least_tree(changed(net, deed)))
                wanted = (tuple(sorted(ahead - behind)), tuple(sorted(behind - ahead)))
                told = exchange(net, deed)
                self.assertEqual(told, wanted, msg=f"{net} {deed}")
                self.assertEqual((ahead - set(told[0])) | set(told[1]), behind)
                self.assertIs(shows_exchange(net, deed, told), True)
                seen.add((deed[0], len(told[0]), len(told[1])))
        for wanted in (("leave", 2, 1), ("place", 1, 2), ("cost", 1, 1), ("tie", 1, 1), ("tie", 0, 1), ("untie", 1, 0)):
            self.assertIn(wanted, seen)

    def test_refused_as_changed(self):
        wrong = [(thing, NoDeed) for thing in no_words() + [["place", "y"], ("place", "a", "b"), ("cost", "ab", True)]]
        wrong += [(("place", "a"), Taken), (("tie", "bx", "a", "c", 1), Taken), (("tie", "ab", "a", "a", 1), NoDeed)]
        wrong += [(("leave", "x"), NoPlace), (("untie", "a"), NoTie), (("cost", "zz", 1), NoTie)]
        for deed, error in wrong:
            for question in (changed, exchange):
                with self.assertRaises(TreeError, msg=kind(deed)) as caught:
                    question(NET, deed)
                self.assertIs(type(caught.exception), error, msg=kind(deed))


class ShowsExchangeTest(unittest.TestCase):
    DEEDS = (("place", "x"), ("leave", "b"), ("untie", "ac"), ("cost", "ab", 6), ("tie", "new", "c", "a", 3))

    def shows(self, deed, told):
        answer = shows_exchange(NET, deed, told)
        self.assertIsInstance(answer, bool)
        self.assertIs(shows_exchange(NET, deed, told), answer)
        return answer

    def test_all_pairs_of_names(self):
        names = ["ab", "ac", "bc", "bx", "cx", "new", "zz"]
        sets = [choice for size in range(3) for choice in itertools.permutations(names, size)]
        for deed in self.DEEDS:
            right = exchange(NET, deed)
            for told in itertools.product(sets, repeat=2):
                self.assertIs(self.shows(deed, told), told == right, msg=f"{deed} {told}")
            shown = [told for told in itertools.product(sets, repeat=2) if self.shows(deed, told)]
            self.assertEqual(shown, [right])

    def test_turned_about_more_fewer_twice(self):
        for deed in self.DEEDS:
            gone, come = exchange(NET, deed)
            self.assertIs(self.shows(deed, (gone, come)), True)
            self.assertIs(self.shows(deed, (come, gone)), gone == come)
            for told in ((gone,), (gone, come, ()), (gone, come, come), (gone + ("zz",), come), (gone, come + ("zz",)),
                         (gone + gone + ("zz",), come), gone + come, (gone, come + come + ("zz",)), ((gone, come),)):
                self.assertIs(self.shows(deed, told), False)
            for part, names in enumerate((gone, come)):
                for fewer in ([names[:-1], names[1:], names + names[-1:]] if names else []):
                    self.assertIs(self.shows(deed, (fewer, come) if part == 0 else (gone, fewer)), False)

    def test_lists(self):
        for deed in self.DEEDS:
            gone, come = exchange(NET, deed)
            for told in ([gone, come], (list(gone), come), (gone, list(come)), [list(gone), list(come)], {gone: come}):
                self.assertIs(self.shows(deed, told), False)

    def test_things_of_every_other_kind(self):
        for deed in self.DEEDS:
            right = exchange(NET, deed)
            for thing in no_words() + [NET, deed, [thing for thing in right]]:
                self.assertIs(self.shows(deed, thing), False, msg=kind(thing))
                for part in range(2):
                    for within in (thing, (thing,), ("ab", thing), (thing, "zz")):
                        told = (within, right[1]) if part == 0 else (right[0], within)
                        # No names at all are right where none go, or none come.
                        if not (isinstance(within, tuple) and len(within) == len(right[part]) == 0):
                            self.assertIs(self.shows(deed, told), False, msg=kind(thing))
        for one, other in itertools.product(of_no_text(), repeat=2):
            wanted = isinstance(one, tuple) and isinstance(other, tuple) and len(one) == len(other) == 0
            self.assertIs(self.shows(("untie", "ac"), (one, other)), wanted, msg=f"{kind(one)} {kind(other)}")
