import itertools
import unittest

from cheaptree.dearest import dearest, shows_dearest
from cheaptree.nets import is_net
from tests.reckoning import all_ways, crossing, groups, least_tree, opened, rank, small_nets, ties_by_name
from tests.things import all_sets, at, kind, no_words, of_no_text, paths, put

# A piece of four places with parallel ties, one of two, a place without ties, and a tie that waits.
NET = (
    ("a", "b", "c", "d", "e", "f", "g"),
    (
        ("ab", "a", "b", 3), ("abx", "a", "b", 8), ("ac", "a", "c", 9), ("bc", "b", "c", 5), ("bd", "b", "d", 7),
        ("cd", "c", "d", 6), ("ef", "e", "f", 4), ("gy", "g", "y", 1),
    ),
)
OPEN = ("ab", "abx", "ac", "bc", "bd", "cd", "ef")


def dearest_rank(net, names):
    return max([rank(net, name) for name in names])


def own_side(net, one, names):
    """The rising tuple of the places to which one comes from the one along these ties."""
    named = ties_by_name(net)
    [group] = [group for group in groups(net[0], [named[name] for name in names])[0] if one in group]
    return tuple(group)


def is_right(net, one, other, along, side):
    """What point 13 asks of a way and a side, both tuples of words, once more."""
    if one not in side or other in side or list(side) != sorted(set(side)) or not set(side) <= set(net[0]):
        return False
    if along not in all_ways(net, one, other):
        return False
    return all([rank(net, name) >= dearest_rank(net, along) for name in crossing(net, side)])


class DearestTest(unittest.TestCase):
    def told(self, net, one, other):
        self.assertIs(is_net(net), True)
        as_it_was = repr(net)
        told = dearest(net, one, other)
        self.assertEqual(dearest(net, one, other), told)
        self.assertEqual(repr(net), as_it_was)
        if told is not None:
            self.assertIs(type(told), tuple)
            self.assertEqual([type(part) for part in told], [tuple, tuple])
            self.assertEqual({type(word) for part in told for word in part}, {str})
        return told

    def test_plain_ones(self):
        self.assertEqual(self.told(NET, "a", "b"), (("ab",), ("a",)))
        self.assertEqual(self.told(NET, "b", "a"), (("ab",), ("b",)))
        self.assertEqual(self.told(NET, "a", "c"), (("ab", "bc"), ("a", "b")))
        self.assertEqual(self.told(NET, "c", "a"), (("bc", "ab"), ("c",)))
        self.assertEqual(self.told(NET, "a", "d"), (("ab", "bc", "cd"), ("a", "b", "c")))
        self.assertEqual(self.told(NET, "d", "a"), (("cd", "bc", "ab"), ("d",)))
        self.assertEqual(self.told(NET, "e", "f"), (("ef",), ("e",)))

    def test_no_way(self):
        for one, other in itertools.permutations(NET[0], 2):
            apart = not (set((one, other)) <= set("abcd") or set((one, other)) <= set("ef"))
            self.assertEqual(self.told(NET, one, other) is None, apart)
        self.assertIsNone(self.told((("a", "b"), ()), "a", "b"))
        self.assertIsNone(self.told((("a", "b"), (("s", "a", "x", 1), ("t", "b", "x", 1))), "a", "b"))

    def test_the_name_decides_where_costs_are_alike(self):
        net = (("a", "b", "c"), (("s", "b", "c", 7), ("t", "a", "b", 7), ("u", "a", "c", 7)))
        self.assertEqual(self.told(net, "a", "c"), (("t", "s"), ("a",)))
        self.assertEqual(self.told(net, "c", "a"), (("s", "t"), ("b", "c")))
        net = (("a", "b", "c"), (("s", "a", "b", 7), ("t", "b", "c", 7), ("u", "a", "c", 7)))
        self.assertEqual(self.told(net, "a", "c"), (("s", "t"), ("a", "b")))
        self.assertEqual(self.told(net, "c", "a"), (("t", "s"), ("c",)))
        net = (("a", "b"), (("s", "a", "b", 7), ("t", "a", "b", 7)))
        self.assertEqual(self.told(net, "a", "b"), (("s",), ("a",)))

    def test_the_side_holds_places_off_the_way(self):
        net = (("a", "b", "c", "d"), (("s", "a", "b", 5), ("t", "a", "c", 1), ("u", "b", "d", 1), ("v", "c", "d", 5)))
        self.assertEqual(self.told(net, "a", "b"), (("s",), ("a", "c")))
        self.assertEqual(self.told(net, "b", "a"), (("s",), ("b", "d")))

    def test_against_all_ways(self):
        seen = set()
        for net in itertools.chain(small_nets(200), small_nets(60, 7, 12)):
            tree = least_tree(net)
            for one, other in itertools.permutations(net[0], 2):
                told = self.told(net, one, other)
                found = all_ways(net, one, other)
                seen.add((told is None, len(found) > 3))
                self.assertEqual(told is None, not found, msg=f"{net} {one} {other}")
                if told is None:
                    continue
                along, side = told
                self.assertEqual([names for names in found if set(names) <= set(tree)], [along])
                top = dearest_rank(net, along)
                self.assertEqual(min([dearest_rank(net, names) for names in found]), top)
                lower = [name for name in tree if rank(net, name) < top]
                self.assertEqual(side, own_side(net, one, lower), msg=f"{net} {one} {other}")
                self.assertEqual(self.told(net, other, one)[0], along[::-1])
                self.assertIs(shows_dearest(net, one, other, told), True)
        self.assertEqual(seen, {(True, False), (False, False), (False, True)})


class ShowsDearestTest(unittest.TestCase):
    def shows(self, net, one, other, told):
        answer = shows_dearest(net, one, other, told)
        self.assertIsInstance(answer, bool)
        self.assertIs(shows_dearest(net, one, other, told), answer)
        return answer

    def test_other_ways_and_other_sides(self):
        net = (("a", "b", "c", "d"), (("s", "a", "b", 5), ("t", "b", "c", 2), ("u", "a", "c", 5), ("v", "a", "c", 5)))
        self.assertEqual(dearest(net, "a", "c"), (("s", "t"), ("a",)))
        for side, wanted in ((("a",), True), (("a", "d"), True), (("a", "b"), False), (("a", "b", "d"), False)):
            self.assertIs(self.shows(net, "a", "c", (("s", "t"), side)), wanted)
            self.assertIs(self.shows(net, "a", "c", (("u",), side)), False)
        self.assertIs(self.shows(net, "c", "a", (("t", "s"), ("b", "c"))), True)
        self.assertIs(self.shows(net, "c", "a", (("t", "s"), ("b", "c", "d"))), True)
        self.assertIs(self.shows(net, "c", "a", (("t", "s"), ("c",))), False)
        ties = (("s", "a", "b", 1), ("t", "b", "c", 2), ("u", "a", "d", 1), ("v", "b", "d", 1))
        net = (("a", "b", "c", "d"), ties)
        self.assertEqual(dearest(net, "a", "c"), (("s", "t"), ("a", "b", "d")))
        self.assertIs(self.shows(net, "a", "c", (("u", "v", "t"), ("a", "b", "d"))), True)

    def test_all_sides_of_all_ways(self):
        seen = set()
        for net in itertools.chain([NET], small_nets(60)):
            for one, other in itertools.permutations(net[0], 2):
                told = dearest(net, one, other)
                for along in all_ways(net, one, other) + [(), tuple([tie[0] for tie in opened(net)])]:
                    for side in all_sets(net[0]):
                        wanted = is_right(net, one, other, along, side)
                        seen.add((wanted, (along, side) == told))
                        self.assertIs(self.shows(net, one, other, (along, side)), wanted, msg=f"{net} {along} {side}")
        self.assertEqual(seen, {(True, True), (True, False), (False, False)})

    def test_all_rows_of_names_as_ways(self):
        names = OPEN + ("gy", "zz", "a")
        rows = [row for size in range(4) for row in itertools.product(names, repeat=size)]
        for one, other in itertools.permutations(("a", "b", "d", "e"), 2):
            side = dearest(NET, one, other)[1] if dearest(NET, one, other) else (one,)
            for row in rows:
                wanted = is_right(NET, one, other, row, side)
                self.assertIs(self.shows(NET, one, other, (row, side)), wanted, msg=f"{one} {other} {row}")

    def test_ways_that_are_none(self):
        side = ("a", "b", "c")
        self.assertIs(self.shows(NET, "a", "d", (("ab", "bc", "cd"), side)), True)
        wrong = [(), ("ab",), ("ab", "bc"), ("bc", "cd"), ("cd", "bc", "ab"), ("ab", "cd"), ("ab", "bc", "cd", "cd")]
        wrong += [("ab", "ab", "ab", "bc", "cd"), ("ab", "abx", "ab", "bc", "cd"), ("ab", "bc", "cd", "bd", "bd")]
        wrong += [("ab", "bc", "ac", "ab", "bc", "cd"), ("ab", "bc", "cd", "bd", "bc", "cd"), ("ab", "bc", "cd", "bd")]
        wrong += [("gy",), ("zz",), ("ab", "bc", "cd", "gy"), ("ab", "bc", "zz"), ("ef",), ("ef", "ab", "bc", "cd")]
        for along in wrong:
            self.assertIs(self.shows(NET, "a", "d", (along, side)), False, msg=f"{along}")
        net = (("a", "b"), (("s", "a", "x", 1), ("t", "b", "x", 1)))
        self.assertIs(self.shows(net, "a", "b", (("s", "t"), ("a",))), False)

    def test_an_empty_way_never(self):
        for one, other in itertools.permutations(NET[0], 2):
            for side in all_sets(NET[0]):
                self.assertIs(self.shows(NET, one, other, ((), side)), False)

    def test_sides_that_are_none(self):
        along = ("ab", "bc", "cd")
        for side in (("a", "b", "c"), ("a", "b", "c", "g"), ("a", "b", "c", "e", "f")):
            self.assertIs(self.shows(NET, "a", "d", (along, side)), True)
            for order in itertools.permutations(side):
                self.assertIs(self.shows(NET, "a", "d", (along, order)), order == side)
            for place in side:
                self.assertIs(self.shows(NET, "a", "d", (along, tuple(sorted(side + (place,))))), False)
            for word in ("y", "zz", "ab", "d", "aa"):
                self.assertIs(self.shows(NET, "a", "d", (along, tuple(sorted(side + (word,))))), False)
        wrong = [(), ("b", "c"), ("a",), ("a", "b"), ("a", "c"), ("d",), ("a", "b", "c", "e"), ("a", "b", "c", "d")]
        for side in wrong:
            self.assertIs(self.shows(NET, "a", "d", (along, side)), False)

    def test_where_there_is_no_way_nothing_shows_one(self):
        for told in [None, ((), ()), ((), ("a",)), (("ab",), ("a",)), ((), ("a", "b", "c", "d")), (None, ("a",))]:
            self.assertIs(self.shows(NET, "a", "g", told), False)
            self.assertIs(self.shows((("a", "b"), ()), "a", "b", told), False)

    def test_lists_and_other_things_at_each_depth(self):
        told = dearest(NET, "a", "d")
        for path in paths(told):
            whole = at(told, path)
            tried = no_words() + [(told,), (told, told), "zz", NET]
            if isinstance(whole, tuple):
                tried += [list(whole), whole + ("a",), whole + whole, whole[:-1], (whole,), dict.fromkeys(whole)]
            for thing in tried:
                answer = self.shows(NET, "a", "d", put(told, path, thing))
                self.assertIs(answer, False, msg=f"{path} {kind(thing)}")

    def test_pairs_of_things_of_every_kind(self):
        for one, other in itertools.product(of_no_text() + ["", "ab"], repeat=2):
            answer = self.shows(NET, "a", "b", (one, other))
            self.assertIs(answer, False, msg=f"{kind(one)} {kind(other)}")
