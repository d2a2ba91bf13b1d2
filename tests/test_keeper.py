import unittest

from cheaptree.cheapest import cheapest
from cheaptree.deeds import changed
from cheaptree.errors import NoBack, NoDeed, NoPlace, NoTie, Taken, TreeError
from cheaptree.exchanges import exchange
from cheaptree.keeper import Keeper
from cheaptree.nets import empty, is_net
from tests.reckoning import drawn, least_tree, small_nets, ties_by_name
from tests.things import kind, no_words

DEEDS = (
    ("place", "a"), ("place", "b"), ("tie", "s", "b", "a", 5), ("tie", "t", "a", "b", 3), ("tie", "u", "c", "b", -1),
    ("place", "c"), ("cost", "t", 6), ("tie", "v", "a", "c", 4), ("untie", "s"), ("leave", "b"), ("place", "b"),
)


def state(keeper):
    """All that a keeper tells."""
    return (keeper.net(), keeper.tree(), keeper.cost(), keeper.deeds())


def done(deeds):
    keeper = Keeper()
    for deed in deeds:
        keeper.do(deed)
    return keeper


def drawn_deed(figures):
    """A deed of any sort, let or not."""
    sort = next(figures) % 9
    place = "abcdef"[next(figures) % 6]
    name = "mnopqr"[next(figures) % 6]
    cost = next(figures) % 7 - 3
    if sort < 3:
        return ("place", place)
    if sort == 3:
        return ("leave", place)
    if sort == 4:
        return ("untie", name)
    if sort == 5:
        return ("cost", name, cost)
    return ("tie", name, place, "abcdef"[("abcdef".index(place) + 1 + next(figures) % 5) % 6], cost)


class KeeperTest(unittest.TestCase):
    def check(self, keeper):
        """What a keeper tells fits together, in the kinds asked for, and again the same."""
        told = state(keeper)
        self.assertEqual(state(keeper), told)
        net, tree, cost, deeds = told
        self.assertIs(is_net(net), True)
        self.assertEqual(tree, least_tree(net))
        self.assertEqual(cost, sum([ties_by_name(net)[name][3] for name in tree]))
        self.assertEqual([type(part) for part in told], [tuple, tuple, int, tuple])

    def refused(self, keeper, deed, error):
        ahead = state(keeper)
        with self.assertRaises(TreeError, msg=kind(deed)) as caught:
            keeper.do(deed)
        self.assertIs(type(caught.exception), error, msg=kind(deed))
        self.assertEqual(state(keeper), ahead)

    def test_at_first_it_keeps_the_empty_net(self):
        self.assertEqual(state(Keeper()), (empty(), (), 0, ()))

    def test_each_deed(self):
        keeper = Keeper()
        told = []
        for k, deed in enumerate(DEEDS):
            ahead = keeper.net()
            told.append(keeper.do(deed))
            self.assertEqual(told[-1], exchange(ahead, deed))
            self.assertEqual(keeper.net(), changed(ahead, deed))
            self.assertEqual(keeper.deeds(), DEEDS[: k + 1])
            self.check(keeper)
        wanted = [((), ()), ((), ()), ((), ("s",)), (("s",), ("t",)), ((), ()), ((), ("u",)), (("t",), ("s",))]
        wanted += [(("s",), ("v",)), ((), ()), (("u",), ()), ((), ("u",))]
        self.assertEqual(told, wanted)
        ties = (("t", "a", "b", 6), ("u", "b", "c", -1), ("v", "a", "c", 4))
        self.assertEqual(state(keeper), ((("a", "b", "c"), ties), ("u", "v"), 3, DEEDS))

    def test_each_refusal(self):
        for many in range(len(DEEDS) + 1):
            keeper = done(DEEDS[:many])
            for thing in no_words() + [["place", "z"], ("place",), ("place", "z", 1), ("cost", "t", True), ("back",)]:
                self.refused(keeper, thing, NoDeed)
            self.refused(keeper, ("tie", "z", "a", "a", 1), NoDeed)
            self.refused(keeper, ("leave", "z"), NoPlace)
            self.refused(keeper, ("untie", "z"), NoTie)
            self.refused(keeper, ("cost", "z", 1), NoTie)
            for place in keeper.net()[0]:
                self.refused(keeper, ("place", place), Taken)
            for tie in keeper.net()[1]:
                self.refused(keeper, ("tie", tie[0], "y", "z", 1), Taken)
                self.refused(keeper, ("tie",) + tie, Taken)

    def no_back(self, keeper):
        ahead = state(keeper)
        with self.assertRaises(TreeError) as caught:
            keeper.back()
        self.assertIs(type(caught.exception), NoBack)
        self.assertEqual(state(keeper), ahead)

    def test_back_to_the_very_beginning(self):
        keeper = Keeper()
        self.no_back(keeper)
        states = [state(keeper)]
        told = []
        for deed in DEEDS:
            told.append(keeper.do(deed))
            states.append(state(keeper))
        for (gone, come), wanted in zip(told[::-1], states[-2::-1]):
            self.assertEqual(keeper.back(), (come, gone))
            self.assertEqual(state(keeper), wanted)
            self.check(keeper)
        self.no_back(keeper)
        self.no_back(keeper)
        self.assertEqual(keeper.do(("place", "q")), ((), ()))
        self.assertEqual(keeper.deeds(), (("place", "q"),))

    def test_what_was_refused_is_not_gone_back_of(self):
        keeper = done(DEEDS[:4])
        self.refused(keeper, ("place", "a"), Taken)
        self.refused(keeper, ("deed",), NoDeed)
        self.assertEqual(keeper.back(), (("t",), ("s",)))
        self.assertEqual(keeper.deeds(), DEEDS[:3])

    def test_a_deed_that_changes_nothing_is_gone_back_of_too(self):
        keeper = done(DEEDS[:4] + (("cost", "t", 3),))
        self.assertEqual(keeper.back(), ((), ()))
        self.assertEqual(keeper.deeds(), DEEDS[:4])

    def test_deeds_as_they_were_handed_in(self):
        keeper = done([("tie", "s", "b", "a", 5), ("cost", "s", 7), ("place", "b"), ("place", "a")])
        self.assertEqual(keeper.deeds(), (("tie", "s", "b", "a", 5), ("cost", "s", 7), ("place", "b"), ("place", "a")))
        self.assertEqual(keeper.net(), (("a", "b"), (("s", "a", "b", 7),)))

    def test_done_other_than_what_was_gone_back_of(self):
        keeper = done(DEEDS[:4])
        keeper.back()
        self.assertEqual(keeper.do(("tie", "t", "b", "a", 9)), ((), ()))
        self.assertEqual(keeper.deeds(), DEEDS[:3] + (("tie", "t", "b", "a", 9),))
        for wanted in (((), ()), (("s",), ()), ((), ()), ((), ())):
            self.assertEqual(keeper.back(), wanted)
        self.no_back(keeper)

    def test_copied(self):
        for many in range(len(DEEDS) + 1):
            keeper = done(DEEDS[:many])
            ahead = state(keeper)
            other = keeper.copied()
            self.assertIs(type(other), Keeper)
            self.assertEqual((state(keeper), state(other)), (ahead, ahead))
            other.do(("place", "q"))
            self.assertEqual(state(keeper), ahead)
            keeper.do(("tie", "q", "a", "c", -9))
            keeper.do(("place", "w"))
            self.assertEqual(other.deeds(), DEEDS[:many] + (("place", "q"),))
            # Each goes back of its own, and of what came ahead of the copying.
            for each, own in ((keeper, 2), (other, 1)):
                for k in range(own):
                    each.back()
                self.assertEqual(state(each), ahead)
                for k in range(many):
                    each.back()
                self.assertEqual(state(each), state(Keeper()))
                self.no_back(each)

    def test_a_copy_gone_back_leaves_the_first_one(self):
        keeper = done(DEEDS)
        other = keeper.copied()
        third = other.copied()
        for _ in DEEDS:
            other.back()
        self.assertEqual((state(keeper), state(third)), (state(done(DEEDS)),) * 2)
        keeper.back()
        self.assertEqual(state(third), state(done(DEEDS)))
        self.assertEqual(state(other), state(Keeper()))

    def test_two_keepers_of_their_own(self):
        one, other = Keeper(), Keeper()
        one.do(("place", "a"))
        self.assertEqual(state(other), (empty(), (), 0, ()))

    def test_in_different_orders_the_same_tree(self):
        for net in small_nets(60):
            deeds = [("tie", tie[0], tie[2], tie[1], tie[3]) for tie in net[1]] + [("place", place) for place in net[0]]
            for order in (deeds, deeds[::-1], deeds[::2] + deeds[1::2][::-1], sorted(deeds)):
                keeper = done(order)
                self.assertEqual((keeper.net(), keeper.tree()), (net, least_tree(net)))

    def test_rows_of_drawn_deeds(self):
        for seed in range(20):
            figures = drawn(seed)
            keeper = Keeper()
            past = []
            for _ in range(60):
                ahead = state(keeper)
                if next(figures) % 5 == 0 and past:
                    wanted, told = past.pop()
                    self.assertEqual(keeper.back(), told[::-1])
                    self.assertEqual(state(keeper), wanted)
                    continue
                deed = drawn_deed(figures)
                try:
                    behind = changed(keeper.net(), deed)
                except TreeError as error:
                    self.refused(keeper, deed, type(error))
                    continue
                told = keeper.do(deed)
                self.assertEqual(told, exchange(ahead[0], deed))
                self.assertEqual(state(keeper)[:2], (behind, cheapest(behind)))
                self.assertEqual(keeper.deeds(), ahead[3] + (deed,))
                self.check(keeper)
                past.append((ahead, told))

    def test_four_hundred_deeds(self):
        keeper = done([("place", "a"), ("place", "b"), ("tie", "s", "a", "b", 0), ("tie", "t", "a", "b", 0)])
        for k in range(396):
            keeper.do(("cost", "st"[k % 2], k * 10**27 - 10**29))
        self.check(keeper)
        self.assertEqual(len(keeper.deeds()), 400)
        copy = keeper.copied()
        for k in range(400):
            keeper.back()
        self.no_back(keeper)
        self.assertEqual(state(keeper), state(Keeper()))
        self.assertEqual(len(copy.deeds()), 400)
