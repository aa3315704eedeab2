import itertools
import random
import unittest

from tests.samples import ANYTHING, a_let_by_talk, a_saying, a_talk, as_case, some_boxes, some_cases, words
from tests.test_reader import SIGNS, case_plainly, changed
from tests.test_texts import saying_plainly, talk_plainly, words_plainly
from unlikeplace.cases import case_by, case_of
from unlikeplace.desk import Desk
from unlikeplace.ends import cut
from unlikeplace.errors import NoCase, NoRise, NoRow, NoSaying, NoTalk, NoWord, TalkError, TooMany
from unlikeplace.fixed import fixed_case
from unlikeplace.leads import saying_of, talk_of
from unlikeplace.leasts import least
from unlikeplace.pairs import many_pairs
from unlikeplace.papers import shown
from unlikeplace.plain import by_no, by_yes
from unlikeplace.reader import read_saying, read_table, read_talk
from unlikeplace.sayings import deep, leaves, missed
from unlikeplace.sums import even_sums
from unlikeplace.talks import fault, talk_deep, talk_leaves
from unlikeplace.turned import flipped_case, swapped_case

EXCLUSIVE = "01,10 00,11"
UNLIKE = "((0&!1)|(!0&1))"
# How many words a row has behind its first one.
ROWS = {"table": 1, "case": 2, "rule": 1, "parts": 1, "lets": 1, "talk": 1, "cut": 1, "saying": 1, "least": 1,
        "pairs": 0, "sums": 0, "flip": 1, "swap": 0, "fix": 2, "show": 0}
# A row of each kind that is answered where the case of two places stands.
GOOD = {"table": "table 0110", "case": "case 01 00", "rule": "rule any", "parts": "parts 0", "lets": "lets 0",
        "talk": f"talk {UNLIKE}", "cut": "cut 0", "saying": "saying Y[10](N[11](1;0);N[11](0;1))",
        "least": "least leaves", "pairs": "pairs", "sums": "sums", "flip": "flip 00", "swap": "swap", "fix": "fix 0 1",
        "show": "show"}
BY_PLACES = ("parts", "lets", "talk", "cut", "saying", "flip", "fix")


def desk_with(*rows):
    desk = Desk()
    for row in rows:
        assert desk.say(row) == "ok", row
    return desk


class Case(unittest.TestCase):
    def answers(self, desk, *rows):
        """Of (row, answer) by turns."""
        for row, answer in zip(rows[::2], rows[1::2]):
            told = desk.say(row)
            self.assertIs(type(told), str)
            self.assertEqual(told, answer, row)

    def refused(self, desk, kind, row):
        with self.assertRaises(TalkError) as caught:
            told = desk.say(row)
            self.fail(f"told {told} of {str(row)[:200]}")
        self.assertIs(type(caught.exception), kind, str(row)[:200])


class Rows(Case):
    def test_table(self):
        desk = Desk()
        self.answers(desk, "table 0110", "ok", "show", EXCLUSIVE, "table 01", "ok", "show", "1 0")
        for size in (2, 4, 8, 16, 32):
            table = "0" * (size - 1) + "1"
            self.answers(desk, f"table {table}", "ok")
            yes, no = desk.say("show").split(" ")
            self.assertEqual((yes, no.count(",")), ("1" * (size.bit_length() - 1), size - 2))
            self.refused(desk, NoCase, "table " + "0" * size)
            self.refused(desk, NoCase, "table " + "1" * size)
        for wrong in ("", "0", "1", "011", "-", "0120", "01,10", "0" * 64, "0110\n", "0" * 6, "01\t"):
            self.refused(desk, NoWord, f"table {wrong}")

    def test_case(self):
        desk = Desk()
        self.answers(desk, "case 01,10 00", "ok", "show", "01,10 00", "case 1 0", "ok", "show", "1 0")
        self.answers(desk, "case 00000 11111", "ok", "show", "00000 11111")
        for wrong in ("- 01", "01 -", "10,01 00", "00 10,01", "01,01 00", "00 11,11", "01 1", "1 01", "01,1 00",
                      "00 01,1", "000000 111111", "000000 0", "0 000000", "01, 00", "01 ,00", " 00", "01 ", " ",
                      "02 00", "00 0x", "01;10 00", "(01) 00", "01 00\n"):
            self.refused(desk, NoWord, f"case {wrong}")
        # Written as they should be, but they make no case.
        for wrong in ("01 01", "01,10 10", "01,10,11 00,01", "0 0", "0,1 1"):
            self.refused(desk, NoCase, f"case {wrong}")
        self.answers(desk, "show", "00000 11111")

    def test_rule(self):
        desk = desk_with("case 0 1")
        self.answers(desk, "lets 0", "yes 1 0", "rule rising", "ok", "lets 0", "no 0 1 0", "rule any", "ok",
                     "lets 0", "yes 1 0")
        for wrong in ("", "Any", "ANY", "risin", "rising\n", "leaves", "-", "0"):
            self.refused(desk, NoWord, f"rule {wrong}")
        # No case is needed, and the rule stays when another one is kept.
        desk = desk_with("rule rising", "case 0 1")
        self.answers(desk, "lets 0", "no 0 1 0", "table 10", "ok", "lets 0", "no 0 1 0", "swap", "ok", "lets 0",
                     "yes 1 0")

    def test_parts(self):
        desk = desk_with("table 0110")
        self.answers(desk, f"parts {UNLIKE}", "yes 4 2", "parts 0", "no 01", "parts (0|1)", "no 11", "parts (0&!0)",
                     "no 01", "parts (0|!0)", "no 00", "parts (0&!1)", "no 01", "parts (!0&1)", "no 10")
        # The rule tells nothing here.
        self.answers(desk, "rule rising", "ok", f"parts {UNLIKE}", "yes 4 2")
        self.answers(desk_with("case 1 0"), "parts 0", "yes 1 0", "parts !0", "no 1")
        for wrong in ("", "2", "!2", "(0&1", "(0&1))", "0&1", "-", "Y[-](0;0)", "00", "(0&2)", "0\n"):
            self.refused(desk, NoWord, f"parts {wrong}")

    def test_lets(self):
        desk = desk_with("table 0110")
        self.answers(desk, "lets Y[10](N[11](1;0);N[11](0;1))", "yes 4 2", "lets 0", "no 01 00 0",
                     "lets 1", "no 01 11 1", "lets Y[10](1;0)", "no 01 11 1")
        self.answers(desk, "rule rising", "ok", "lets Y[10](N[11](1;0);N[11](0;1))", "no 01 11 0")
        self.answers(desk_with("case 01,10 00", "rule rising"), "lets Y[10](1;0)", "yes 2 1", "lets 0", "no 01 00 0",
                     "lets N[-](Y[10](1;0);0)", "yes 3 2")
        for wrong in ("", "2", "!0", "Y[1](0;1)", "Y[10,01](0;1)", "Y[11,](0;1)", "Y[](0;1)", "Y[-](0;1", "(0&1)", "-"):
            self.refused(desk, NoWord, f"lets {wrong}")

    def test_talk(self):
        desk = desk_with("table 0110")
        self.answers(desk, f"talk {UNLIKE}", "Y[01](N[11](0;1);N[00](0;1))")
        self.answers(desk_with("case 01,10 00"), "talk (0|1)", "Y[01](0;1)", "talk (0|(1|0))", "Y[01](0;Y[10](1;0))")
        self.answers(desk_with("case 1 0"), "talk 0", "0", "talk (0&0)", "N[-](0;0)")
        self.refused(desk, NoSaying, "talk 0")
        self.refused(desk, NoSaying, "talk (0|1)")
        self.refused(desk, NoWord, "talk 2")
        self.refused(desk, NoWord, "talk Y[-](0;1)")

    def test_cut(self):
        desk = desk_with("case 01,10 00")
        self.answers(desk, "cut Y[10](1;0)", "Y[10](1;0)", "cut N[00](0;Y[10](1;0))", "Y[10](1;0)",
                     "cut Y[01,10](Y[-](0;0);1)", "1", "cut 0", "0", "cut Y[01,11](N[-](1;0);0)", "Y[01,11](1;0)")
        self.refused(desk, NoWord, "cut 2")
        self.refused(desk, NoWord, "cut (0|1)")

    def test_saying(self):
        desk = desk_with("case 01,10 00")
        self.answers(desk, "saying Y[10](1;0)", "(1|0)", "saying N[00](0;Y[10](1;0))", "(1|0)")
        self.answers(desk_with("case 00 01,10"), "saying N[10](1;0)", "(!1&!0)")
        # By "any", whatever the rule is.
        self.answers(desk_with("case 00 01,10", "rule rising"), "saying N[10](1;0)", "(!1&!0)")
        self.refused(desk, NoTalk, "saying 0")
        self.refused(desk, NoTalk, "saying Y[01](1;0)")
        self.refused(desk, NoWord, "saying 2")
        self.refused(desk, NoWord, "saying (0|1)")

    def test_least(self):
        self.answers(desk_with("table 01101001"), "least leaves", "10", "least depth", "4")
        self.answers(desk_with("table 00010111"), "least leaves", "5", "least depth", "3", "rule rising", "ok",
                     "least leaves", "5", "least depth", "3")
        self.answers(desk_with("case 01 00"), "least leaves", "1", "least depth", "0")
        self.answers(desk_with("case 0100,1000 0011"), "least leaves", "1", "rule rising", "ok", "least leaves", "2",
                     "least depth", "1", "rule any", "ok", "least depth", "0")
        desk = desk_with("table 0110", "rule rising")
        self.refused(desk, NoRise, "least leaves")
        self.refused(desk, NoRise, "least depth")
        desk = desk_with("table " + "01" * 8)
        self.refused(desk, TooMany, "least leaves")
        desk = desk_with("table " + "10" * 8, "rule rising")
        self.refused(desk, TooMany, "least depth")
        for wrong in ("", "leave", "Depth", "any", "depth\n", "0"):
            self.refused(desk, NoWord, f"least {wrong}")

    def test_pairs_and_sums(self):
        self.answers(desk_with("table 0110"), "pairs", "4", "sums", "4")
        self.answers(desk_with("case 1 0"), "pairs", "1", "sums", "1")
        for rule in ("any", "rising"):
            for places in range(1, 6):
                for case in some_cases(places, 8, 1300 + places):
                    desk = desk_with(f"case {words_plainly(case[1])} {words_plainly(case[2])}", f"rule {rule}")
                    box = case[1:]
                    self.answers(desk, "pairs", str(shown(rule, box, many_pairs(rule, box))[0]),
                                 "sums", str(shown(rule, box, even_sums(rule, box))[0]))
        # By "rising" of a case that doesn't grow, too.
        self.answers(desk_with("case 0 1", "rule rising"), "pairs", "1", "sums", "1")

    def test_flip(self):
        desk = desk_with("case 01,10 00")
        self.answers(desk, "flip 00", "ok", "show", "01,10 00", "flip 10", "ok", "show", "00,11 10", "flip 01", "ok",
                     "show", "01,10 11", "flip 11", "ok", "show", "01,10 00")
        for wrong in ("", "0", "000", "02", "-", "0,1", "01\n", "00,01"):
            self.refused(desk, NoWord, f"flip {wrong}")
        self.answers(desk_with("case 1 0"), "flip 1", "ok", "show", "0 1", "flip 0", "ok", "show", "0 1")

    def test_swap(self):
        self.answers(desk_with("case 01,10 00"), "swap", "ok", "show", "00 01,10", "swap", "ok", "show", "01,10 00")

    def test_fix(self):
        self.answers(desk_with("case 01,10 00,11"), "fix 0 1", "ok", "show", "0 1")
        self.answers(desk_with("case 01,10 00,11"), "fix 1 0", "ok", "show", "1 0")
        self.answers(desk_with("case 001,110 010,101"), "fix 1 1", "ok", "show", "10 00", "rule rising", "ok",
                     "lets 0", "yes 1 0")
        desk = desk_with("case 01,10 00")
        self.refused(desk, NoCase, "fix 0 1")
        self.refused(desk, NoCase, "fix 1 1")
        self.answers(desk, "fix 1 0", "ok", "show", "1 0")
        for place, bit in itertools.product("0", "01"):
            self.refused(desk, NoCase, f"fix {place} {bit}")
        self.refused(desk, NoWord, "fix 1 0")
        desk = desk_with("case 01,10 00")
        for wrong in ("2 0", "0 2", " 0", "0 ", " ", "-1 0", "00 0", "0 00", "x 0", "0 x", "01 1", "0 -", "5 5", "0 1\n",
                      "+0 0", "0 +1"):
            self.refused(desk, NoWord, f"fix {wrong}")
        five = desk_with("table " + "0" * 31 + "1")
        for figure in range(5, 10):
            self.refused(five, NoWord, f"fix {figure} 1")
        self.answers(five, "fix 4 1", "ok", "fix 3 1", "ok", "show", "111 000,001,010,011,100,101,110")
        self.refused(five, NoWord, "fix 3 1")

    def test_show(self):
        for places in range(1, 6):
            for case in some_cases(places, 10, 1310 + places):
                text = f"{words_plainly(case[1])} {words_plainly(case[2])}"
                self.answers(desk_with(f"case {text}"), "show", text)


class Refusals(Case):
    def test_no_text(self):
        for desk in (Desk(), desk_with("table 0110")):
            for thing in ANYTHING:
                self.refused(desk, NoRow, thing)
            for thing in (["show"], ("show",), {"show": 1}, b"show", ["table", "01"], ("rule", "any")):
                self.refused(desk, NoRow, thing)

    def test_first_words(self):
        for desk in (Desk(), desk_with("table 0110")):
            for row in ("", " ", "  ", "Show", "SHOW", "shows", "sho", "show\n", "\nshow", "show\t", " show", "show ",
                        "  show", "show  ", "tables 01", "ok", "any", "rule:any", "rule,any", "rule\tany", "rule\nany",
                        "help", "0110", "-", "quit", "parts:0", "unlike"):
                self.refused(desk, NoRow, row)

    def test_numbers_of_words(self):
        for desk in (Desk(), desk_with("table 0110")):
            for first, many in ROWS.items():
                for size, word in itertools.product(range(5), ("", "0", "01", "any", "leaves", "x")):
                    if size != many:
                        self.refused(desk, NoRow, " ".join([first] + [word] * size))

    def test_blanks(self):
        for desk in (Desk(), desk_with("table 0110")):
            for first, row in GOOD.items():
                for wrong in (" " + row, row + " ", "  " + row, row + "  ", row.replace(" ", "  ", 1) + " "):
                    self.refused(desk, NoRow, wrong)
                if ROWS[first]:
                    self.refused(desk, NoRow, row.replace(" ", "  "))
        # A word without signs where there should be one.
        desk = desk_with("table 0110")
        for first, many in ROWS.items():
            if many:
                self.refused(desk, NoWord, first + " " * many)
        for row in ("case  00", "case 01 ", "fix  1", "fix 0 "):
            self.refused(desk, NoWord, row)

    def test_without_a_case(self):
        for first, row in GOOD.items():
            desk = Desk()
            if first in ("table", "case", "rule"):
                self.answers(desk, row, "ok")
            else:
                self.refused(desk, NoCase, row)
                self.refused(desk_with("rule rising"), NoCase, row)

    def test_no_case_ahead_of_no_word(self):
        desk = Desk()
        for first in BY_PLACES:
            for word in ("", "x", "0", "9", "-", "("):
                self.refused(desk, NoCase, " ".join([first] + [word] * ROWS[first]))
        self.refused(desk, NoCase, "fix 0 x")
        self.refused(desk, NoCase, "fix x 0")
        # But behind NoRow.
        for first in BY_PLACES:
            self.refused(desk, NoRow, first)
            self.refused(desk, NoRow, first + " 0 0 0")

    def test_no_word_ahead_of_no_case(self):
        desk = Desk()
        self.refused(desk, NoWord, "least leave")
        self.refused(desk, NoWord, "least ")
        self.refused(desk, NoCase, "least leaves")
        self.refused(desk, NoCase, "least depth")
        self.refused(desk, NoWord, "rule x")
        self.refused(desk, NoWord, "table 011")
        self.refused(desk, NoWord, "table 000")
        self.refused(desk, NoCase, "table 0000")
        self.refused(desk, NoWord, "case 01 01,01")
        self.refused(desk, NoWord, "case 01,01 01")
        self.refused(desk, NoWord, "case 0 0,00")
        self.refused(desk, NoCase, "case 01 01")

    def test_no_word_ahead_of_what_the_stages_refuse(self):
        desk = desk_with("table " + "10" * 8, "rule rising")
        self.refused(desk, NoWord, "least x")
        self.refused(desk, TooMany, "least leaves")
        desk = desk_with("case 0 1", "rule rising")
        self.refused(desk, NoRise, "least leaves")
        self.refused(desk, NoWord, "least leaves\n")
        self.refused(desk, NoWord, "fix 0 2")
        self.refused(desk, NoWord, "fix 1 0")
        self.refused(desk, NoCase, "fix 0 0")
        self.refused(desk, NoWord, "talk 1")
        self.refused(desk, NoSaying, "talk 0")
        self.refused(desk_with("case 01,10 00"), NoTalk, "saying 0")
        self.refused(desk_with("case 01,10 00"), NoWord, "saying 2")

    def test_what_is_refused_changes_nothing(self):
        wrongs = ["table 0000", "table 1111", "table 011", "case 01 01", "case 1 1", "case 10,01 00", "rule x", "fix 0 x",
                  "fix 1 1", "flip 0", "flip 2", "swap ", " swap", "swap x", "parts x", "talk 0", "saying 0", "least x",
                  "fix 2 0", "table 01 10", "rule any rising", "case 0", "rule ", "table", None, 0, ["swap"]]
        for rule in ("any", "rising"):
            desk = desk_with("case 01,10 00", f"rule {rule}")
            lets = desk.say("lets Y[10](0;1)"), desk.say("lets Y[10](1;0)")
            for row in wrongs:
                self.assertRaises(TalkError, desk.say, row)
                self.assertEqual(desk.say("show"), "01,10 00")
                self.assertEqual((desk.say("lets Y[10](0;1)"), desk.say("lets Y[10](1;0)")), lets)
        # The rule is told apart by what the place 0 does where the bits go down.
        desk = desk_with("case 0 1", "rule rising")
        for row in [row for row in wrongs if row not in ("flip 0", "saying 0")]:
            self.assertRaises(TalkError, desk.say, row)
            self.assertEqual(desk.say("show"), "0 1")
            self.assertEqual(desk.say("lets 0"), "no 0 1 0")
        desk = Desk()
        for row in wrongs + ["show", "swap", "flip 1"]:
            self.assertRaises(TalkError, desk.say, row)
            self.refused(desk, NoCase, "show")
        self.answers(desk, "case 0 1", "ok", "lets 0", "yes 1 0")

    def test_answers_change_nothing(self):
        for rule in ("any", "rising"):
            desk = desk_with("case 01,10 00", f"rule {rule}")
            for row in ("parts (0|1)", "parts 0", "lets Y[10](1;0)", "lets 0", "talk (0|1)", "cut Y[10](1;0)",
                        "saying Y[10](1;0)", "least leaves", "least depth", "pairs", "sums", "show"):
                told = desk.say(row)
                self.assertEqual(desk.say(row), told)
                self.assertEqual(desk.say("show"), "01,10 00")

    def test_each_desk_is_its_own(self):
        one, other = desk_with("case 0 1", "rule rising"), Desk()
        self.refused(other, NoCase, "show")
        self.answers(other, "table 0110", "ok", "show", EXCLUSIVE)
        self.answers(one, "show", "0 1", "lets 0", "no 0 1 0", "swap", "ok", "show", "1 0")
        self.answers(other, "show", EXCLUSIVE, "saying Y[10](N[11](1;0);N[11](0;1))", "((1&!0)|(0&!1))")


class Plain:
    """The desk once more, row by row, by what the modules tell."""

    def __init__(self):
        self.case, self.rule = None, "any"

    def say(self, row):
        words = row.split(" ")
        if ROWS.get(words[0], -1) != len(words) - 1:
            raise NoRow("")
        first, rest = words[0], words[1:]
        if first in BY_PLACES and self.case is None:
            raise NoCase("")
        read = self.read(first, rest)
        if self.case is None and first not in ("table", "case", "rule"):
            raise NoCase("")
        return getattr(self, "say_" + first)(*read)

    def read(self, first, rest):
        try:
            if first in ("parts", "talk"):
                return [read_saying(self.case[0], rest[0])]
            if first in ("lets", "cut", "saying"):
                return [read_talk(self.case[0], rest[0])]
            if first == "table":
                return [read_table(rest[0])]
        except TalkError:
            raise NoWord("") from None
        good = {"rule": rest in (["any"], ["rising"]), "least": rest in (["leaves"], ["depth"]),
                "case": first == "case" and self.is_case(*rest),
                "flip": first == "flip" and rest[0] in map("".join, itertools.product("01", repeat=self.case[0])),
                "fix": first == "fix" and rest[0] in "01234"[:self.case[0]] and rest[1] in ("0", "1") and rest[0] != ""}
        if not good.get(first, True):
            raise NoWord("")
        return rest

    def is_case(self, yes, no):
        """Whether both are words, rising, of as many bits."""
        sides = [[tuple(map(int, word)) if set(word) <= {"0", "1"} else () for word in side.split(",")]
                 for side in (yes, no)]
        return (len({len(word) for side in sides for word in side}) == 1 and 1 <= len(sides[0][0]) <= 5
                and all(side == sorted(set(side)) for side in sides))

    def say_table(self, table):
        self.case = case_by(table)
        return "ok"

    def say_case(self, yes, no):
        sides = [[tuple(map(int, word)) for word in side.split(",")] for side in (yes, no)]
        self.case = case_of(len(sides[0][0]), *sides)
        return "ok"

    def say_rule(self, rule):
        self.rule = rule
        return "ok"

    def say_parts(self, saying):
        wrong = missed(self.case, saying)
        return f"no {words_plainly([wrong[1]])}" if wrong else f"yes {leaves(saying)} {deep(saying)}"

    def say_lets(self, talk):
        wrong = fault(self.case, self.rule, talk)
        if wrong:
            return f"no {words_plainly([wrong[0]])} {words_plainly([wrong[1]])} {wrong[2]}"
        return f"yes {talk_leaves(talk)} {talk_deep(talk)}"

    def say_talk(self, saying):
        return talk_plainly(talk_of(self.case, saying))

    def say_cut(self, talk):
        return talk_plainly(cut(self.case, talk))

    def say_saying(self, talk):
        return saying_plainly(saying_of(self.case, talk))

    def say_least(self, by):
        return f"{least(self.case, self.rule, by)[0]}"

    def say_pairs(self):
        return f"{len(many_pairs(self.rule, self.case[1:])[1])}"

    def say_sums(self):
        return f"{shown(self.rule, self.case[1:], even_sums(self.rule, self.case[1:]))[0]}"

    def say_flip(self, word):
        self.case = flipped_case(self.case, tuple(at for at, sign in enumerate(word) if sign == "1"))
        return "ok"

    def say_swap(self):
        self.case = swapped_case(self.case)
        return "ok"

    def say_fix(self, place, bit):
        self.case = fixed_case(self.case, int(place), int(bit))
        return "ok"

    def say_show(self):
        return f"{words_plainly(self.case[1])} {words_plainly(self.case[2])}"


def a_row(case, chance):
    """A row that mostly is written as it should be for a case."""
    first = chance.choice(list(ROWS) + ["case", "table", "rule", "flip"])
    places = case[0] if case else chance.randint(1, 5)
    own = case or as_case(some_boxes(places, 1, chance.randrange(10 ** 6))[0])
    if first in ("parts", "talk"):
        saying = chance.choice((by_yes(own), by_no(own), a_saying(places, chance.randint(0, 3), chance)))
        return f"{first} {saying_plainly(saying)}"
    if first in ("lets", "cut", "saying"):
        talk = chance.choice((a_let_by_talk("any", own[1:], chance), a_talk(places, chance.randint(0, 3), chance)))
        return f"{first} {talk_plainly(talk)}"
    if first == "table":
        return "table " + "".join(chance.choice("01") for _ in range(chance.choice((2, 4, 8, 16, 32))))
    if first == "case":
        box = some_boxes(chance.randint(1, 5), 1, chance.randrange(10 ** 6), chance.choice((4, 8, 32)))[0]
        return f"case {words_plainly(box[0])} {words_plainly(box[1])}"
    word = {"rule": chance.choice(("any", "rising")), "least": chance.choice(("leaves", "depth")),
            "flip": "".join(chance.choice("01") for _ in range(places)),
            "fix": f"{chance.randrange(places)} {chance.choice('01')}"}
    return f"{first} {word[first]}" if first in word else first


class Mixed(Case):
    def test_against_the_modules(self):
        chance = random.Random(1)
        kinds = {}
        for _ in range(40):
            desk, plain = Desk(), Plain()
            for _ in range(60):
                row = a_row(plain.case, chance)
                if chance.random() < 0.25:
                    row = changed(row, chance)
                try:
                    right = plain.say(row)
                except TalkError as wrong:
                    kinds[type(wrong)] = kinds.get(type(wrong), 0) + 1
                    self.refused(desk, type(wrong), row)
                else:
                    kinds[row.split(" ")[0]] = kinds.get(row.split(" ")[0], 0) + 1
                    self.answers(desk, row, right)
                if plain.case:
                    self.answers(desk, "show", plain.say("show"))
        self.assertEqual(len(kinds), len(ROWS) + 7, kinds)
        self.assertGreater(min(kinds.values()), 10, kinds)

    def test_each_sign_in_each_place_of_a_case(self):
        desk = desk_with("case 1 0")
        for at, sign in itertools.product(range(len("01,10 00") + 1), SIGNS):
            text = "01,10 00"[:at] + sign + "01,10 00"[at + 1:]
            right = case_plainly(text)
            if text.count(" ") != 1:
                self.refused(desk, NoRow, f"case {text}")
            elif right is not None:
                self.answers(desk, f"case {text}", "ok", "show", text)
            elif set(text) <= set("01, ") and Plain().is_case(*text.split(" ")):
                self.refused(desk, NoCase, f"case {text}")
            else:
                self.refused(desk, NoWord, f"case {text}")

    def test_all_tables_of_three_places(self):
        desk = Desk()
        for table in words(8):
            text = "".join(map(str, table))
            if len(set(table)) == 1:
                self.refused(desk, NoCase, f"table {text}")
            else:
                case = case_by(table)
                self.answers(desk, f"table {text}", "ok", "show", f"{words_plainly(case[1])} {words_plainly(case[2])}")


if __name__ == "__main__":
    unittest.main()
