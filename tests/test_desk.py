import itertools
import unittest

from cheaptree.desk import Desk
from cheaptree.errors import NoLine, TreeError
from tests.reckoning import all_trees, drawn, full_nets, small_nets
from tests.things import kind, no_words, of_no_text

QUESTIONS = ("tree", "sum", "pieces", "wait", "many", "net")
# Each line, with its words of the kinds W (a word), N (a number) and K (a number from 0 on).
FORMS = (
    "place W", "leave W", "tie W W W N", "untie W", "cost W N", "back", "tree", "sum", "pieces", "wait", "margin W",
    "dear W W", "next K", "many", "net",
)
LINES = (
    "place a", "place b", "place c", "tie s b a 5", "tie t a b 3", "tie u b c 7", "tie v c a 7", "tie w c x -4",
)


def desk_of(*lines):
    desk = Desk()
    for line in lines:
        desk.say(line)
    return desk


def desk_with(net):
    """A desk that keeps this net."""
    ties = [" ".join(["tie"] + [str(part) for part in tie]) for tie in net[1]]
    return desk_of(*[f"place {place}" for place in net[0]], *ties)


def state(desk):
    """What a desk answers to each question that is always a line."""
    return [desk.say(line) for line in QUESTIONS]


class DeskTest(unittest.TestCase):
    def answers(self, desk, *pairs):
        for line, wanted in pairs:
            told = desk.say(line)
            self.assertEqual(told, wanted, msg=line)
            self.assertIs(type(told), str)

    def refused(self, desk, line):
        ahead = state(desk)
        with self.assertRaises(TreeError, msg=kind(line)) as caught:
            desk.say(line)
        self.assertIs(type(caught.exception), NoLine, msg=kind(line))
        self.assertEqual(state(desk), ahead, msg=kind(line))

    def goes_back(self, desk, many):
        """A desk has just so many deeds to go back of."""
        for _ in range(many):
            self.assertTrue(desk.say("back").startswith("gone"))
        self.answers(desk, ("back", "no back"), ("net", ""))

    def test_of_nothing(self):
        desk = Desk()
        self.answers(
            desk, ("tree", ""), ("sum", "0"), ("pieces", ""), ("wait", ""), ("many", "1"), ("net", ""), ("next 0", ""),
            ("next 1", "none"), ("back", "no back"), ("margin t", "no tie"), ("untie t", "no tie"), ("cost t 1", "no tie"),
            ("leave a", "no place"), ("place a", "gone come"), ("pieces", "a"), ("tree", ""), ("back", "gone come"),
            ("back", "no back"), ("net", ""),
        )

    def test_deeds(self):
        self.answers(
            Desk(), ("place b", "gone come"), ("place a", "gone come"), ("tie s b a 5", "gone come s"),
            ("tie t a b 3", "gone s come t"), ("cost t 5", "gone t come s"), ("cost t 4", "gone s come t"),
            ("untie t", "gone t come s"), ("leave a", "gone s come"), ("place a", "gone come s"),
            ("tie u b c 7", "gone come"), ("tie v c a 7", "gone come"), ("place c", "gone come u"),
            ("cost v -7", "gone u come v"), ("cost u -8", "gone s come u"), ("leave b", "gone u come"),
            ("place d", "gone come"), ("tie w d a 0", "gone come w"), ("leave a", "gone v w come"),
            ("place b", "gone come u"), ("place a", "gone come v w"),
            ("net", "place a / place b / place c / place d / tie s a b 5 / tie u b c -8 / tie v a c -7 / tie w a d 0"),
        )

    def test_refused_deeds(self):
        desk = desk_of(*LINES)
        ahead = state(desk)
        for line, wanted in (
            ("place a", "taken"), ("tie s a b 5", "taken"), ("tie w y z 1", "taken"), ("leave x", "no place"),
            ("leave s", "no place"), ("untie a", "no tie"), ("untie q", "no tie"), ("cost a 1", "no tie"),
            ("cost q -3", "no tie"), ("margin a", "no tie"), ("margin q", "no tie"), ("margin x", "no tie"),
        ):
            self.answers(desk, (line, wanted))
            self.assertEqual(state(desk), ahead)
        # What was refused is nothing to go back of.
        self.answers(desk, ("back", "gone come"), ("wait", ""), ("back", "gone come"), ("back", "gone u come"))

    def test_back(self):
        desk = Desk()
        states = [state(desk)]
        told = []
        for line in LINES + ("untie t", "leave b", "cost v 1", "place b"):
            told.append(desk.say(line))
            states.append(state(desk))
        for answer, wanted in zip(told[::-1], states[-2::-1]):
            gone, come = answer[5:].split("come")
            back = ["gone"] + come.split() + ["come"] + gone.split()
            self.answers(desk, ("back", " ".join(back)))
            self.assertEqual(state(desk), wanted)
        self.answers(desk, ("back", "no back"), ("back", "no back"))

    def test_questions(self):
        desk = desk_of(*LINES)
        self.answers(
            desk, ("tree", "t u"), ("sum", "10"), ("pieces", "a+b+c"), ("wait", "w"), ("many", "5"),
            ("net", "place a / place b / place c / tie s a b 5 / tie t a b 3 / tie u b c 7 / tie v a c 7 / tie w c x -4"),
            ("place y", "gone come"), ("place ab", "gone come"), ("pieces", "a+b+c ab y"), ("place x", "gone come w"),
            ("pieces", "a+b+c+x ab y"), ("wait", ""), ("sum", "6"), ("leave c", "gone u w come"), ("pieces", "a+b ab x y"),
            ("wait", "u v w"), ("sum", "3"), ("cost t -3", "gone come"), ("sum", "-3"),
        )

    def test_margin(self):
        desk = desk_of(*LINES)
        self.answers(
            desk, ("margin w", "waits"), ("margin t", "stays 4 s"), ("margin s", "comes 3 t"), ("margin u", "stays 7 v"),
            ("margin v", "comes 6 u"), ("place x", "gone come w"), ("margin w", "stays"), ("cost t -20", "gone come"),
            ("margin s", "comes -20 t"), ("cost s -3", "gone come"), ("margin t", "stays -4 s"),
            ("cost v 0", "gone u come v"), ("margin v", "stays 6 u"), ("margin u", "comes 0 v"), ("cost u 1", "gone come"),
            ("margin v", "stays 0 u"), ("cost v 900000000000000000000000000000", "gone v come u"),
            ("margin u", "stays 900000000000000000000000000000 v"),
        )

    def test_dear(self):
        desk = desk_of(*LINES)
        self.answers(
            desk, ("dear a b", "t"), ("dear b a", "t"), ("dear a c", "u"), ("dear c a", "u"), ("dear b c", "u"),
            ("place q", "gone come"), ("dear a q", "none"), ("dear q a", "none"), ("place x", "gone come w"),
            ("dear x a", "u"), ("dear c x", "w"), ("leave c", "gone u w come"), ("dear x a", "none"),
        )
        for line in ("dear a a", "dear q q", "dear a c", "dear c a", "dear s t", "dear a z", "dear z a", "dear z y", "dear z z"):
            self.refused(desk, line)

    def test_next_and_many(self):
        desk = desk_of(*LINES)
        self.answers(
            desk, ("next 0", "t u"), ("next 1", "t v"), ("next 2", "s u"), ("next 3", "s v"), ("next 4", "u v"),
            ("next 5", "none"), ("next 6", "none"), ("next 10", "none"), ("next " + "9" * 30, "none"), ("many", "5"),
        )
        for line in ("next -1", "next -0", "next 00", "next 01", "next +1", "next", "next a", "next 1 2", "next ", "next 1.",
                     "next -5", "next \u0661", "next 0 ", "next  0", "many 1", "many ", "next 1a", "next --1"):
            self.refused(desk, line)

    def test_next_of_nets_of_full_size(self):
        for net in itertools.chain(small_nets(40), full_nets(2)):
            found = all_trees(net)
            desk = desk_with(net)
            for k in {0, 1, 2, 150, 199, len(found) - 1, len(found), len(found) + 1}:
                wanted = " ".join(found[k]) if k < len(found) else "none"
                if k < 200 or k >= len(found):
                    self.answers(desk, (f"next {k}", wanted))
            self.answers(desk, ("many", str(len(found))))

    def test_costs(self):
        for cost in ("0", "1", "-1", "10", "-10", "9" * 30, "-" + "9" * 30, "100", "1" + "0" * 4400):
            desk = desk_of("place a", "place b")
            self.answers(desk, (f"tie t a b {cost}", "gone come t"), ("sum", cost), ("cost t 5", "gone come"), ("sum", "5"))
            self.answers(desk, (f"cost t {cost}", "gone come"), ("sum", cost))
            self.answers(desk, ("net", f"place a / place b / tie t a b {cost}"))

    def test_words_and_numbers_not_so_written(self):
        desk = desk_of(*LINES)
        words = [word for word in no_words() if isinstance(word, str)]
        numbers = ["", "00", "01", "-0", "-01", "+1", "--1", "1-", "-", "1.0", "1e3", "1_0", "a", "1a", "t", "\u0661", "\u00b2"]
        for form in FORMS:
            parts = form.split(" ")
            right = [{"W": "abcdefgh"[k], "N": "-3", "K": "2"}.get(part, part) for k, part in enumerate(parts)]
            for k, part in enumerate(parts):
                wrong = {"W": words + ["1", "-3", "0"], "N": numbers, "K": numbers + ["-1", "-3"]}.get(part, words + ["x"])
                for word in wrong:
                    self.refused(desk, " ".join(right[:k] + [word] + right[k + 1:]))
        self.goes_back(desk, len(LINES))

    def test_words_too_few_or_too_many_and_blanks_more(self):
        desk = desk_of(*LINES)
        for form in FORMS:
            parts = form.split(" ")
            right = [{"W": "abcde"[k], "N": "-3", "K": "2"}.get(part, part) for k, part in enumerate(parts)]
            for k in range(1, len(right)):
                self.refused(desk, " ".join(right[:k]))
                self.refused(desk, " ".join(right[:k]) + "  " + " ".join(right[k:]))
                self.refused(desk, " ".join(right[:k]) + "\t" + " ".join(right[k:]))
                self.refused(desk, " ".join(right[:k]) + "\n" + " ".join(right[k:]))
            line = " ".join(right)
            for tried in (" " + line, line + " ", line + "  ", line + "\n", "\n" + line, line + " a", line + " 1", line + " z z",
                          line.upper(), line.title(), line + ".", line + "\t", line + " " + line, line + "\r"):
                self.refused(desk, tried)
        self.goes_back(desk, len(LINES))

    def test_other_first_words(self):
        desk = desk_of(*LINES)
        for line in ("", " ", "  ", "\n", "a", "deeds", "cheapest", "copied", "copy", "text", "do", "gone", "come", "none", "trees",
                     "keeper", "say", "say tree", "waits", "stays", "margins", "dearest a b", "next", "help", "quit", "W", "None",
                     "place", "leave", "tie", "untie", "cost", "margin", "dear", "/", "+", "net / tree", "tree / net", "0", "-1"):
            self.refused(desk, line)

    def test_a_tie_whose_places_are_alike(self):
        desk = desk_of(*LINES)
        for line in ("tie q a a 1", "tie q z z 1", "tie s a a 1"):
            self.refused(desk, line)

    def test_things_that_are_no_texts(self):
        for lines in ((), LINES):
            desk = desk_of(*lines)
            for thing in of_no_text() + [["tree"], ("tree",), b"tree", ("place", "z"), {"tree": 1}]:
                self.refused(desk, thing)
            self.goes_back(desk, len(lines))

    def test_two_desks_of_their_own(self):
        one, other = desk_of(*LINES), Desk()
        ahead = state(one)
        self.assertEqual(state(other), ["", "0", "", "", "1", ""])
        other.say("place z")
        other.say("tie s z a 1")
        self.assertEqual(state(one), ahead)
        one.say("back")
        self.answers(other, ("net", "place z / tie s a z 1"), ("back", "gone come"), ("back", "gone come"), ("back", "no back"))

    def test_four_hundred_deeds(self):
        desk = desk_of("place a", "place b", "tie s a b 0", "tie t a b 0")
        figures = drawn(400)
        for k in range(396):
            desk.say(f"cost {'st'[k % 2]} {next(figures) % 9 - 4}")
        self.goes_back(desk, 400)
