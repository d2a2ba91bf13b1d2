"""What is promised of all of it together, in nets of full size, where trying all would take too long."""

import itertools
import unittest

from cheaptree.cheapest import cheapest
from cheaptree.counting import how_many
from cheaptree.dearest import dearest, shows_dearest
from cheaptree.deeds import changed
from cheaptree.errors import TreeError
from cheaptree.exchanges import exchange, shows_exchange
from cheaptree.margins import margin
from cheaptree.nets import empty, is_net
from cheaptree.paperlooks import shows_by_cuts, shows_by_ways
from cheaptree.papers import cuts, ways
from cheaptree.pieces import pieces
from cheaptree.trees import tree_at, trees
from tests.reckoning import drawn, full_nets

WORDS = "abcdefghijkl"


def drawn_deed(figures):
    """A deed of any sort, often let; of few costs, so that the names decide."""
    sort = next(figures) % 12
    place = WORDS[next(figures) % 12]
    name = "t" + WORDS[next(figures) % 12] + "mnop"[next(figures) % 4]
    cost = (next(figures) % 5 - 2) * 10 ** (next(figures) % 2 * 29)
    if sort < 4:
        return ("place", place)
    if sort == 4:
        return ("leave", place)
    if sort == 5:
        return ("untie", name)
    if sort == 6:
        return ("cost", name, cost)
    return ("tie", name, place, WORDS[(WORDS.index(place) + 1 + next(figures) % 11) % 12], cost)


def nets_on_the_way(seed, many):
    """Triples (net, deed, net behind) of deeds that were let, one behind the other, from full places on."""
    figures = drawn(seed)
    net = (tuple(WORDS), ())
    for _ in range(many):
        deed = drawn_deed(figures)
        try:
            behind = changed(net, deed)
        except TreeError:
            continue
        if len(behind[1]) <= 30:
            yield net, deed, behind
            net = behind


class WholeTest(unittest.TestCase):
    def test_each_paper_by_itself_shows_the_cheapest_tree(self):
        most = 0
        for net, deed, behind in nets_on_the_way(1, 1500):
            self.assertIs(is_net(behind), True)
            tree = cheapest(behind)
            self.assertIs(shows_by_ways(behind, tree, ways(behind)), True)
            self.assertIs(shows_by_cuts(behind, tree, cuts(behind)), True)
            if tree != cheapest(net):
                self.assertIs(shows_by_ways(behind, cheapest(net), ways(net)), False)
                self.assertIs(shows_by_cuts(behind, cheapest(net), cuts(net)), False)
            most = max(most, len(ways(behind)) + len(cuts(behind)))
        self.assertGreater(most, 18)

    def test_the_told_exchange_is_the_whole_change(self):
        for net, deed, behind in nets_on_the_way(2, 1500):
            told = exchange(net, deed)
            kept = set(cheapest(net)) - set(told[0]) | set(told[1])
            self.assertEqual(tuple(sorted(kept)), cheapest(behind))
            self.assertLessEqual(set(told[0]), set(cheapest(net)))
            self.assertEqual(set(told[1]) & set(cheapest(net)), set())
            self.assertIs(shows_exchange(net, deed, told), True)
            if told != ((), ()):
                self.assertIs(shows_exchange(net, deed, ((), ())), False)

    def test_margins_are_where_the_exchange_comes(self):
        for net, deed, behind in list(nets_on_the_way(3, 1000))[::24]:
            for tie in behind[1]:
                name = tie[0]
                told = margin(behind, name)
                if told[0] == "stays" and told[1] is not None:
                    self.assertEqual(exchange(behind, ("cost", name, told[1])), ((), ()))
                    self.assertEqual(exchange(behind, ("cost", name, told[1] + 1)), ((name,), (told[2],)))
                if told[0] == "comes":
                    self.assertEqual(exchange(behind, ("cost", name, told[1])), ((told[2],), (name,)))
                    self.assertEqual(exchange(behind, ("cost", name, told[1] + 1)), ((), ()))
                if told in (("stays", None, None), ("waits",)):
                    self.assertEqual(exchange(behind, ("cost", name, 10**40)), ((), ()))

    def test_the_same_places_and_ties_in_whatever_order(self):
        for net, deed, behind in list(nets_on_the_way(4, 1500))[::40]:
            deeds = [("tie",) + tie for tie in behind[1]] + [("place", place) for place in behind[0]]
            for order in (deeds, deeds[::-1], deeds[::2] + deeds[1::2][::-1]):
                built = empty()
                for each in order:
                    built = changed(built, each)
                self.assertEqual((built, cheapest(built)), (behind, cheapest(behind)))

    def test_between_two_places_a_side_shows_the_dearest_tie(self):
        for net, deed, behind in list(nets_on_the_way(5, 1500))[::40]:
            held = {place: piece for piece in pieces(behind) for place in piece}
            for one, other in itertools.permutations(behind[0], 2):
                told = dearest(behind, one, other)
                self.assertEqual(told is None, held[one] != held[other])
                self.assertIs(shows_dearest(behind, one, other, told), told is not None)

    def test_the_next_trees_are_as_many_as_are_counted(self):
        for net in full_nets(6):
            told = trees(net, 10**6)
            self.assertEqual(len(told), how_many(net))
            self.assertEqual(len(set(told)), len(told))
            self.assertEqual((told[0], told[-1]), (cheapest(net), tree_at(net, len(told) - 1)))
            self.assertEqual(trees(net, 200), told[:200])
