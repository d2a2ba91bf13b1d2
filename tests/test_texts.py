import itertools
import unittest

from cheaptree.errors import NoText, TreeError
from cheaptree.nets import empty, is_net
from cheaptree.texts import net_text, read_net
from tests.reckoning import full_nets, small_nets
from tests.things import long_chain, no_words, some_words

NET = (
    ("a", "ford", "hillside"),
    (("lane", "ford", "hillside", 0), ("path", "a", "wood", -12), ("road", "a", "ford", 10**30 - 1)),
)
TEXT = (
    "place a\nplace ford\nplace hillside\n"
    "tie lane ford hillside 0\ntie path a wood -12\ntie road a ford 999999999999999999999999999999"
)
COSTS = (0, 1, -1, 9, 10, -10, 11, 99, 100, 101, 1000, -1000, 10**29, 10**30 - 1, -(10**30) + 1, 102030405060708090)


class TextsTest(unittest.TestCase):
    def text(self, net):
        self.assertIs(is_net(net), True)
        as_it_was = repr(net)
        text = net_text(net)
        self.assertEqual(net_text(net), text)
        self.assertEqual(repr(net), as_it_was)
        self.assertIs(type(text), str)
        return text

    def net(self, text):
        net = read_net(text)
        self.assertEqual(read_net(text), net)
        self.assertIs(is_net(net), True)
        self.assertEqual([type(part) for part in net], [tuple, tuple])
        return net

    def row(self, text):
        """The number of the row for which a text is refused."""
        with self.assertRaises(TreeError, msg=repr(text)) as caught:
            read_net(text)
        self.assertIs(type(caught.exception), NoText)
        self.assertIs(type(caught.exception.row), int)
        return caught.exception.row

    def test_a_plain_net(self):
        self.assertEqual(self.text(NET), TEXT)
        self.assertEqual(self.net(TEXT), NET)

    def test_nothing(self):
        self.assertEqual(self.text(empty()), "")
        self.assertEqual(self.net(""), empty())

    def test_places_alone_and_ties_alone(self):
        for net, text in (
            ((("a",), ()), "place a"), ((("a", "b"), ()), "place a\nplace b"),
            (((), (("t", "a", "b", 1),)), "tie t a b 1"),
            (((), (("s", "y", "z", 2), ("t", "a", "b", 1))), "tie s y z 2\ntie t a b 1"),
            ((("place", "tie"), (("place", "place", "tie", 1),)), "place place\nplace tie\ntie place place tie 1"),
        ):
            self.assertEqual(self.text(net), text)
            self.assertEqual(self.net(text), net)

    def test_costs(self):
        for cost in COSTS:
            net = ((), (("t", "a", "b", cost),))
            self.assertEqual(self.text(net), f"tie t a b {cost}")
            self.assertEqual(self.net(f"tie t a b {cost}"), net)

    def test_each_net_is_read_as_it_was(self):
        for net in itertools.chain(small_nets(300), small_nets(50, 8, 14), full_nets(20)):
            self.assertEqual(self.net(self.text(net)), net)

    def test_nets_of_any_size(self):
        words = some_words(3000)
        net = (tuple(words), tuple([(words[k], words[k], words[k + 1], (-1) ** k * k) for k in range(2999)]))
        self.assertEqual(self.net(self.text(net)), net)
        net = long_chain(60)
        self.assertEqual(self.net(self.text(net)), net)

    def test_costs_of_thousands_of_figures(self):
        for figures in ("1" + "0" * 4400, "9" * 4400, "-" + "123456789" * 500):
            text = f"tie t a b {figures}"
            self.assertEqual(net_text(read_net(text)), text)
        # Asked for its truth alone: a failed comparison could not be written either.
        self.assertTrue(read_net("tie t a b 1" + "0" * 4400) == ((), (("t", "a", "b", 10**4400),)))

    def wrong_at_each_place(self, row):
        """A row that is wrong wherever it stands, ahead of, between and behind right ones."""
        right = ["place a", "place m", "tie c a b 1", "tie p b c 2"]
        for at in range(len(right) + 1):
            for rows in (right[:at] + [row] + right[at:], right[:at] + [row] + right[at + 1:], right[:at] + [row]):
                self.assertEqual(self.row("\n".join(rows)), at, msg=repr(rows))

    def test_words_missing_or_too_many(self):
        for row in ("place", "place b c", "place b 1", "tie", "tie t", "tie t a", "tie t a b", "tie t a 1", "tie t 1",
                    "tie t a b 1 2", "tie t a b c 1", "tie a b 1", "tie t a b 1 c", "place b tie t a b 1"):
            self.wrong_at_each_place(row)

    def test_blanks(self):
        for row in (" ", "  ", " place b", "place b ", "place  b", "place ", " tie t a b 1", "tie t a b 1 ", "tie  t a b 1",
                    "tie t  a b 1", "tie t a  b 1", "tie t a b  1", "tie t a b ", "place\tb", "tie\tt a b 1", "placeb"):
            self.wrong_at_each_place(row)

    def test_rows_without_words(self):
        for at in range(4):
            rows = ["place b", "place c", "tie t b c 1"]
            rows.insert(at, "")
            self.assertEqual(self.row("\n".join(rows)), at)
        self.assertEqual(self.row("\n"), 0)
        self.assertEqual(self.row("\n\n"), 0)
        self.assertEqual(self.row("place a\n"), 1)
        self.assertEqual(self.row("tie t a b 1\n"), 1)
        self.assertEqual(self.row(TEXT + "\n"), 6)
        self.assertEqual(self.row("\n" + TEXT), 0)

    def test_other_first_words(self):
        for row in ("Place b", "PLACE b", "places b", "leave b", "b", "plac b", "Tie t a b 1", "ties t a b 1", "tye t a b 1",
                    "untie t", "cost t 1", "net", "place: b", "# b", "place t a b 1", "tie b", "tree", "x y", "- b"):
            self.wrong_at_each_place(row)

    def test_words_that_are_none(self):
        texts = [word for word in no_words() if isinstance(word, str) and " " not in word and "\n" not in word]
        for word in texts:
            self.wrong_at_each_place(f"place {word}")
            self.wrong_at_each_place(f"tie {word} a b 1")
            self.wrong_at_each_place(f"tie t {word} b 1")
            self.wrong_at_each_place(f"tie t a {word} 1")

    def test_places_of_a_tie_alike_or_the_greater_first(self):
        for row in ("tie t a a 1", "tie t b a 1", "tie t aa a 1", "tie t b aa 1", "tie t b ab 1"):
            self.wrong_at_each_place(row)

    def test_costs_not_so_written(self):
        for cost in ("00", "01", "-01", "-0", "+1", "+0", "--1", "1-", "-", "+", "", "1.0", "1.", ".5", "1e3", "1_000", "0x1",
                     "a", "1a", "a1", "-a", "1,000", "'1'", "(1)", "0b1", "000", "-00", "None", "True", "\u0661",
                     "\u00b2", "1\u0661", "\uff11", "1\t", "1\r", "1\x0b", "- 1", "1 0", "/", ":", "1/", "1:"):
            self.wrong_at_each_place(f"tie t a b {cost}")

    def test_a_place_behind_a_tie(self):
        self.assertEqual(self.row("tie t a b 1\nplace a"), 1)
        self.assertEqual(self.row("place a\ntie t a b 1\nplace b"), 2)
        self.assertEqual(self.row("place a\ntie t a b 1\ntie u a b 1\nplace b\nplace b"), 3)

    def test_a_word_that_is_not_greater_than_the_one_ahead(self):
        for low, high in (("a", "b"), ("a", "aa"), ("ab", "b"), ("az", "b"), ("p", "pp")):
            self.assertEqual(self.net(f"place {low}\nplace {high}"), ((low, high), ()))
            self.assertEqual(self.row(f"place {high}\nplace {low}"), 1)
            self.assertEqual(self.row(f"place {low}\nplace {low}"), 1)
            self.assertEqual(self.row(f"place {low}\nplace {high}\nplace {low}\nplace {high}"), 2)
            self.assertEqual(self.row(f"place {high}\ntie {high} a b 1\ntie {low} c d 2"), 2)
            self.assertEqual(self.row(f"place {high}\ntie {low} a b 1\ntie {low} c d 2"), 2)
            self.assertEqual(self.row(f"tie {low} a b 1\ntie {high} a b 1\ntie {high} c d 2"), 2)
            # Names of ties are measured by names of ties alone.
            self.assertEqual(self.net(f"place {high}\ntie {low} a b 1"), ((high,), ((low, "a", "b", 1),)))

    def test_the_first_wrong_row_of_several(self):
        self.assertEqual(self.row("place b\nplace a\nplace"), 1)
        self.assertEqual(self.row("place b\nplace c\ntie\nplace a\n"), 2)
        self.assertEqual(self.row("x\nplace b\nplace a"), 0)
        for at in range(40):
            rows = [f"place {word}" for word in some_words(40)]
            rows[at] = "place"
            self.assertEqual(self.row("\n".join(rows + ["", ""])), at)

    def test_other_rows_ends_are_none(self):
        for end in ("\r\n", "\r", "\x0b", "\x0c", "\x85", "\u2028", "; ", " / "):
            self.assertEqual(self.row("place a" + end + "place b"), 0)
