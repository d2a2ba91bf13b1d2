"""What is promised over the whole program, by its interface alone, over rows of drawn deeds of a keeper and a desk."""

import itertools
import unittest

from cheaptree.cheapest import cheapest
from cheaptree.counting import how_many
from cheaptree.dearest import dearest, shows_dearest
from cheaptree.deeds import changed
from cheaptree.desk import Desk
from cheaptree.errors import NoBack, NoPlace, NoTie, Taken, TreeError
from cheaptree.exchanges import exchange, shows_exchange
from cheaptree.forests import cost_of, is_tree
from cheaptree.keeper import Keeper
from cheaptree.margins import margin
from cheaptree.nets import cheaper, waiting
from cheaptree.paperlooks import shows_by_cuts, shows_by_ways
from cheaptree.papers import cuts, ways
from cheaptree.pieces import pieces
from cheaptree.splitting import shows_trees, trees_paper
from cheaptree.texts import net_text, read_net
from cheaptree.trees import tree_at, trees
from tests.reckoning import all_trees, drawn

WORDS = ("a", "b", "c", "d", "e", "f", "g", "hill")
NAMES = tuple("mnopqrstuvwxyz")
REFUSALS = {Taken: "taken", NoPlace: "no place", NoTie: "no tie", NoBack: "no back"}


def drawn_deed(figures):
    """A deed of any sort, often let, None for going back; of few costs, so that the names often decide."""
    sort = next(figures) % 16
    one, other = next(figures) % 8, 1 + next(figures) % 7
    name = NAMES[next(figures) % 14]
    cost = (next(figures) % 5 - 2) * 10 ** (next(figures) % 2 * 29)
    if sort < 5:
        return ("place", WORDS[one])
    if sort < 12:
        return ("tie", name, WORDS[one], WORDS[(one + other) % 8], cost)
    return (("leave", WORDS[one]), ("untie", name), ("cost", name, cost), None)[sort - 12]


def line_of(deed):
    return "back" if deed is None else " ".join([str(part) for part in deed])


def exchange_text(told):
    return " ".join(["gone", *told[0], "come", *told[1]])


def state(keeper):
    return (keeper.net(), keeper.tree(), keeper.cost(), keeper.deeds())


def every(rows, step):
    """Each step-th of the rows, which all go on to their end."""
    return (row for k, row in enumerate(rows) if k % step == 0)


class TogetherTest(unittest.TestCase):
    def rows(self, seed, many):
        """A keeper and a desk behind each of the drawn deeds, which both did alike, or refused alike."""
        figures = drawn(seed)
        keeper, desk = Keeper(), Desk()
        past = []
        for _ in range(many):
            deed = drawn_deed(figures)
            ahead = state(keeper)
            try:
                told = keeper.back() if deed is None else keeper.do(deed)
            except TreeError as error:
                self.assertEqual(desk.say(line_of(deed)), REFUSALS[type(error)])
                self.assertEqual(state(keeper), ahead)
                continue
            self.assertEqual(desk.say(line_of(deed)), exchange_text(told))
            self.whole_change(ahead, deed, told, keeper)
            if deed is None:
                self.assertEqual(state(keeper), past.pop())
            else:
                past.append(ahead)
            yield keeper, desk
        while past:
            self.assertEqual(desk.say("back"), exchange_text(keeper.back()))
            self.assertEqual(state(keeper), past.pop())
            self.assertEqual(desk.say("net").replace(" / ", "\n"), net_text(keeper.net()))
        self.assertRaises(NoBack, keeper.back)
        self.assertEqual(desk.say("back"), "no back")

    def whole_change(self, ahead, deed, told, keeper):
        """(c), of a deed, and of going back."""
        self.assertEqual(tuple(sorted(set(ahead[1]) - set(told[0]) | set(told[1]))), keeper.tree())
        self.assertLessEqual(set(told[0]), set(ahead[1]))
        self.assertEqual(set(told[1]) & set(ahead[1]), set())
        if deed is not None:
            self.assertEqual(exchange(ahead[0], deed), told)
            self.assertEqual(changed(ahead[0], deed), keeper.net())
            self.assertIs(shows_exchange(ahead[0], deed, told), True)
            self.assertIs(shows_exchange(ahead[0], deed, told[::-1]), told[0] == told[1])

    def test_papers_and_orders(self):
        """(a) and (b)."""
        for keeper, desk in self.rows(1, 400):
            net, tree = keeper.net(), keeper.tree()
            self.assertEqual(tree, cheapest(net))
            self.assertIs(is_tree(net, tree), True)
            self.assertIs(shows_by_ways(net, tree, ways(net)), True)
            self.assertIs(shows_by_cuts(net, tree, cuts(net)), True)
            deeds = [("tie",) + tie for tie in net[1]] + [("place", place) for place in net[0]]
            for order in (deeds[::-1], deeds[::2] + deeds[1::2]):
                other = Keeper()
                for deed in order:
                    other.do(deed)
                self.assertEqual(state(other)[:3], state(keeper)[:3])

    def test_margins(self):
        """(d)."""
        for keeper, desk in every(self.rows(2, 400), 5):
            for tie in keeper.net()[1]:
                told = margin(keeper.net(), tie[0])
                wanted = {"stays": [((), ()), ((tie[0],), told[2:])], "comes": [(told[2:], (tie[0],)), ((), ())]}
                if told[1:2] not in ((), (None,)):
                    found = [keeper.copied().do(("cost", tie[0], told[1] + more)) for more in (0, 1)]
                    self.assertEqual(found, wanted[told[0]])
                text = " ".join([str(part) for part in told if part is not None])
                self.assertEqual(desk.say(f"margin {tie[0]}"), text)

    def test_dearest_ties(self):
        """(e)."""
        for keeper, desk in every(self.rows(3, 400), 5):
            net = keeper.net()
            for one, other in itertools.permutations(net[0], 2):
                told = dearest(net, one, other)
                self.assertIs(shows_dearest(net, one, other, told), told is not None)
                together = [piece for piece in pieces(net) if one in piece and other in piece]
                self.assertEqual(told is not None, len(together) == 1)
                answer = desk.say(f"dear {one} {other}")
                self.assertEqual(answer == "none", told is None)
                if told is not None:
                    self.assertIn(answer, told[0])
                    self.assertFalse(any([cheaper(net, answer, name) for name in told[0] if name != answer]))

    def test_next_trees(self):
        """(f)."""
        most = 0
        for keeper, desk in every(self.rows(4, 400), 9):
            net = keeper.net()
            found = trees(net, 10**6)
            most = max(most, len(found))
            self.assertEqual(found, tuple(all_trees(net)))
            self.assertEqual((how_many(net), desk.say("many")), (len(found), str(len(found))))
            for many in (0, 1, 7):
                told = trees_paper(net, many)
                self.assertEqual(told[0], found[:many])
                self.assertIs(shows_trees(net, told), True)
                self.assertIs(shows_trees(net, (found[1:many + 1], told[1])), many == 0)
            for k in (0, 5, 30):
                wanted = " ".join(found[k]) if k < len(found) else "none"
                self.assertEqual(desk.say(f"next {k}"), wanted)
                if k < len(found):
                    self.assertEqual(tree_at(net, k), found[k])
        self.assertGreater(most, 100)

    def test_back_and_copies(self):
        """(g), of copies too; of the rows themselves it is asked wherever they go back."""
        for keeper, desk in every(self.rows(5, 400), 20):
            ahead = state(keeper)
            copy = keeper.copied()
            for _ in ahead[3]:
                copy.back()
            self.assertRaises(NoBack, copy.back)
            self.assertEqual(state(copy), (((), ()), (), 0, ()))
            for deed in ahead[3]:
                copy.do(deed)
            self.assertEqual((state(copy), state(keeper)), (ahead, ahead))

    def test_texts_and_the_desk(self):
        """(h)."""
        for keeper, desk in self.rows(6, 400):
            net = keeper.net()
            self.assertEqual(read_net(net_text(net)), net)
            self.assertEqual(desk.say("net"), net_text(net).replace("\n", " / "))
            self.assertEqual(desk.say("tree"), " ".join(keeper.tree()))
            self.assertEqual(desk.say("sum"), str(keeper.cost()))
            self.assertEqual(keeper.cost(), cost_of(net, cheapest(net)))
            self.assertEqual(desk.say("pieces"), " ".join(["+".join(piece) for piece in pieces(net)]))
            self.assertEqual(desk.say("wait"), " ".join(waiting(net)))
