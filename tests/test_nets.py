import itertools
import unittest

from cheaptree.nets import cheaper, empty, is_net, is_word, open_ties, waiting
from tests.things import kind, long_chain, no_words, of_no_text, some_words

NETS = (
    ((), ()),
    (("a",), ()),
    (("a", "b", "c"), ()),
    (("abcdefgh", "abcdefgi", "b", "ba"), ()),
    (("a", "b"), (("t", "a", "b", 5),)),
    (("a", "b"), (("t", "a", "b", 0),)),
    (("a", "b"), (("t", "a", "b", -7),)),
    (("a", "b"), (("t", "a", "b", 10**30 - 1), ("u", "a", "b", 1 - 10**30))),
    (("a", "b"), (("t", "a", "b", 3), ("u", "a", "b", 3), ("v", "a", "b", 3))),
    (("a", "b"), (("a", "a", "b", 3), ("b", "a", "b", 2))),
    (("a", "b"), (("a", "x", "y", 3), ("b", "a", "y", 2), ("c", "b", "y", 1))),
    ((), (("t", "a", "b", 1),)),
    (("a", "b", "c"), (("s", "a", "b", 1), ("t", "b", "c", 2), ("u", "a", "c", 3))),
    (("a", "b"), (("s", "b", "c", 9), ("t", "a", "b", 1))),
)

PLAIN = (("a", "b", "c"), (("s", "a", "b", 1), ("t", "b", "c", 2)))


def put(net, path, thing):
    """The net with the thing in the place to which the path leads."""
    if not path:
        return thing
    parts = list(net)
    parts[path[0]] = put(parts[path[0]], path[1:], thing)
    return tuple(parts)


def at(net, path):
    for step in path:
        net = net[step]
    return net


class WordTest(unittest.TestCase):
    def test_words(self):
        for word in ("a", "z", "m", "az", "abcdefgh", "zzzzzzzz", "aaaaaaaa", "place", "tie"):
            with self.subTest(word):
                self.assertIs(is_word(word), True)
        for letter in "abcdefghijklmnopqrstuvwxyz":
            self.assertIs(is_word(letter), True)
            self.assertIs(is_word(letter * 8), True)
            self.assertIs(is_word(letter * 9), False)
            self.assertIs(is_word(letter.upper()), False)

    def test_no_words(self):
        for thing in no_words():
            self.assertIs(is_word(thing), False, msg=kind(thing))

    def test_each_wrong_place_in_a_word_counts(self):
        for spot in range(8):
            for sign in "A0 _`{\xe4":
                self.assertIs(is_word("abcdefgh"[:spot] + sign + "abcdefgh"[spot + 1:]), False)

    def test_of_all_single_signs_just_the_letters_are_words(self):
        told = "".join([chr(k) for k in range(0x3000) if is_word(chr(k))])
        self.assertEqual(told, "abcdefghijklmnopqrstuvwxyz")


class IsNetTest(unittest.TestCase):
    def test_nets(self):
        for net in NETS:
            with self.subTest(net):
                self.assertIs(is_net(net), True)

    def test_empty(self):
        self.assertEqual(empty(), ((), ()))
        self.assertIs(is_net(empty()), True)
        self.assertEqual(empty(), empty())

    def test_far_beyond_the_bounds(self):
        net = long_chain(5000)
        self.assertIs(is_net(net), True)
        self.assertIs(is_net((net[0] + ("a",), net[1])), False)
        self.assertIs(is_net((net[0], net[1] + net[1][-1:])), False)
        self.assertIs(is_net((net[0], net[1][:-1] + (net[1][-1][:3] + (None,),))), False)

    def test_a_cost_may_have_any_many_figures(self):
        for cost in (10**29, 10**30, -(10**30), 10**6000, -(10**6000)):
            self.assertTrue(is_net(put(PLAIN, (1, 0, 3), cost)) is True)

    def test_things_of_other_kinds_as_a_net(self):
        for thing in no_words():
            self.assertIs(is_net(thing), False, msg=kind(thing))

    def test_a_net_has_two_parts(self):
        for thing in ((), (PLAIN[0],), PLAIN + ((),), PLAIN + PLAIN, (PLAIN, PLAIN), (PLAIN,), (PLAIN[1], PLAIN[0])):
            self.assertIs(is_net(thing), False)

    def test_things_of_other_kinds_in_each_place(self):
        paths = [(0, k) for k in range(3)] + [(1, row, part) for row in range(2) for part in range(3)]
        for path in paths:
            for thing in no_words():
                self.assertIs(is_net(put(PLAIN, path, thing)), False, msg=f"{path} {kind(thing)}")

    def test_things_of_other_kinds_as_places_ties_or_a_tie(self):
        right = {0: [(), ("a",), ("a", "b")], 1: [()]}
        for part in range(2):
            for thing in no_words():
                wanted = isinstance(thing, tuple) and thing in right[part]
                self.assertIs(is_net(put(PLAIN, (part,), thing)), wanted, msg=f"{part} {kind(thing)}")
        for row in range(2):
            for thing in no_words():
                self.assertIs(is_net(put(PLAIN, (1, row), thing)), False, msg=f"{row} {kind(thing)}")

    def test_things_of_other_kinds_as_a_cost(self):
        for thing in of_no_text() + ["", "1", "a", "0"]:
            wanted = isinstance(thing, int) and not isinstance(thing, bool)
            for row in range(2):
                self.assertIs(is_net(put(PLAIN, (1, row, 3), thing)), wanted, msg=kind(thing))

    def test_lists_where_tuples_belong(self):
        for path in ((), (0,), (1,), (1, 0), (1, 1)):
            with self.subTest(path):
                self.assertIs(is_net(put(PLAIN, path, list(at(PLAIN, path)))), False)
        for net in ([(), ()], ([], ()), ((), []), [[], []]):
            self.assertIs(is_net(net), False)

    def test_places_rise_and_are_unlike(self):
        for places in itertools.product(("a", "b", "ba", "c"), repeat=3):
            wanted = places[0] < places[1] < places[2]
            self.assertIs(is_net((places, ())), wanted, msg=repr(places))

    def test_ties_rise_and_no_name_stands_twice(self):
        for names in itertools.product(("s", "t", "ta", "u"), repeat=3):
            for costs in itertools.permutations((1, 2, 3)):
                ties = tuple([(name, "a", "b", cost) for name, cost in zip(names, costs)])
                wanted = names[0] < names[1] < names[2]
                self.assertIs(is_net((("a", "b"), ties)), wanted, msg=repr(ties))

    def test_a_name_twice_with_other_places(self):
        for ties in ((("s", "a", "b", 1), ("s", "a", "c", 1)), (("s", "a", "b", 1), ("s", "b", "c", 1)),
                     (("s", "a", "b", 1), ("s", "x", "y", 1)), (("s", "a", "b", 1), ("s", "a", "b", 1))):
            self.assertIs(is_net((("a", "b", "c"), ties)), False)

    def test_one_is_less_than_other(self):
        for one, other in itertools.product(("a", "aa", "b", "x", "y"), repeat=2):
            self.assertIs(is_net((("a", "b"), (("t", one, other, 1),))), one < other)

    def test_a_tie_has_four_parts(self):
        for tie in ((), ("t",), ("t", "a"), ("t", "a", "b"), ("a", "b", 1), ("t", "a", "b", 1, 1),
                    ("t", "a", "b", 1, None), ("t", "a", "b", "c", 1), ("t", ("a", "b"), 1), ("t", ("a", "b"), 1, 1)):
            with self.subTest(tie):
                self.assertIs(is_net((("a", "b"), (tie,))), False)
                self.assertIs(is_net((("a", "b"), (("s", "a", "b", 1), tie))), False)
        self.assertIs(is_net((("a", "b"), ("t", "a", "b", 1))), False)

    def test_what_is_handed_in_is_not_changed(self):
        walked = iter(["a", "b"])
        self.assertIs(is_net((walked, ())), False)
        self.assertIs(is_net(walked), False)
        self.assertEqual(list(walked), ["a", "b"])
        lists = [["a"], [["t", "a", "b", 1]]]
        self.assertIs(is_net(lists), False)
        self.assertEqual(lists, [["a"], [["t", "a", "b", 1]]])


class OpenAndWaitingTest(unittest.TestCase):
    def told(self, places, ties):
        net = (tuple(places), ties)
        self.assertIs(is_net(net), True)
        told = (open_ties(net), waiting(net))
        self.assertEqual((open_ties(net), waiting(net)), told)
        self.assertEqual(net, (tuple(places), ties))
        for names in told:
            self.assertIs(type(names), tuple)
            self.assertEqual(list(names), sorted(set(names)))
        self.assertEqual(sorted(told[0] + told[1]), [tie[0] for tie in ties])
        return told

    def test_no_ties(self):
        self.assertEqual(self.told("", ()), ((), ()))
        self.assertEqual(self.told("abc", ()), ((), ()))

    def test_a_tie_waits_for_its_one_its_other_or_both(self):
        ties = (("t", "b", "d", 1),)
        for places in ("bd", "abcde", "abd"):
            self.assertEqual(self.told(places, ties), (("t",), ()))
        for places in ("b", "d", "abc", "cde", "", "ace", "c"):
            self.assertEqual(self.told(places, ties), ((), ("t",)))

    def test_none_some_and_all_wait(self):
        ties = (("q", "a", "c", 4), ("r", "b", "c", 0), ("s", "a", "b", -2), ("t", "a", "b", 9), ("u", "c", "d", 1))
        self.assertEqual(self.told("abcd", ties), (("q", "r", "s", "t", "u"), ()))
        self.assertEqual(self.told("abc", ties), (("q", "r", "s", "t"), ("u",)))
        self.assertEqual(self.told("abd", ties), (("s", "t"), ("q", "r", "u")))
        self.assertEqual(self.told("bc", ties), (("r",), ("q", "s", "t", "u")))
        self.assertEqual(self.told("a", ties), ((), ("q", "r", "s", "t", "u")))
        self.assertEqual(self.told("", ties), ((), ("q", "r", "s", "t", "u")))

    def test_a_tie_called_like_a_place_and_words_within_words(self):
        ties = (("a", "b", "c", 1), ("b", "ab", "abc", 1), ("c", "a", "ab", 1))
        self.assertEqual(self.told(("a", "ab", "b"), ties), (("c",), ("a", "b")))
        self.assertEqual(self.told(("abc",), ties), ((), ("a", "b", "c")))

    def test_all_choices_of_places(self):
        pairs = list(itertools.combinations("abcd", 2))
        ties = tuple([(word, one, other, k) for k, (word, (one, other)) in enumerate(zip(some_words(6), pairs))])
        for many in range(5):
            for places in itertools.combinations("abcd", many):
                wanted = tuple([tie[0] for tie in ties if {tie[1], tie[2]} <= set(places)])
                self.assertEqual(self.told(places, ties)[0], wanted)


class CheaperTest(unittest.TestCase):
    def told(self, first, second, places="ab"):
        """What cheaper tells of ties s and t at these costs; each way about one of the two is cheaper."""
        net = (tuple(places), (("s", "a", "b", first), ("t", "a", "b", second)))
        told = cheaper(net, "s", "t")
        self.assertIs(type(told), bool)
        self.assertIs(cheaper(net, "s", "t"), told)
        self.assertIs(cheaper(net, "t", "s"), not told)
        self.assertEqual(net, (tuple(places), (("s", "a", "b", first), ("t", "a", "b", second))))
        return told

    def test_unlike_costs(self):
        for low, high in ((1, 2), (0, 1), (-1, 0), (-2, -1), (-5, 5), (9, 10), (10**30 - 2, 10**30 - 1), (-(10**30), 3)):
            self.assertIs(self.told(low, high), True)
            self.assertIs(self.told(high, low), False)

    def test_costs_alike_go_by_the_names(self):
        for cost in (0, 1, -1, 10**30 - 1):
            self.assertIs(self.told(cost, cost), True)

    def test_names_go_as_texts_rise(self):
        names = ("a", "aa", "ab", "abcdefgh", "abcdefgi", "b", "ba", "z")
        net = ((), tuple([(name, "x", "y", 4) for name in names]))
        for one, other in itertools.permutations(names, 2):
            self.assertIs(cheaper(net, one, other), one < other)

    def test_waiting_ties_too(self):
        for places in ("", "a", "b", "ab"):
            self.assertIs(self.told(1, 2, places), True)
            self.assertIs(self.told(2, 1, places), False)
            self.assertIs(self.told(2, 2, places), True)

    def test_an_open_one_and_a_waiting_one(self):
        net = (("a", "b"), (("s", "a", "b", 5), ("t", "a", "z", 5), ("u", "y", "z", 4)))
        self.assertIs(cheaper(net, "s", "t"), True)
        self.assertIs(cheaper(net, "t", "s"), False)
        self.assertIs(cheaper(net, "u", "s"), True)
        self.assertIs(cheaper(net, "s", "u"), False)

    def test_the_places_of_the_ties_do_not_count(self):
        net = (("a", "b", "c"), (("s", "b", "c", 5), ("t", "a", "b", 5)))
        self.assertIs(cheaper(net, "s", "t"), True)
