import itertools
import random
import re
import unittest

from tests.below import strictly
from tests.samples import (ANYTHING, all_small_cases, is_plain, looks_like_saying, looks_like_talk, some_cases,
                           some_sayings, some_talks, words)
from tests.test_texts import saying_plainly, talk_plainly, words_plainly
from unlikeplace.errors import NoText
from unlikeplace.leads import talk_of
from unlikeplace.plain import by_no, by_yes, joined
from unlikeplace.reader import read_case, read_saying, read_table, read_talk
from unlikeplace.sayings import deep
from unlikeplace.talks import talk_deep
from unlikeplace.texts import show_saying, show_table, show_talk, show_words

SIGNS = [chr(number) for number in range(32, 127)] + ["\n", "\r"]
# The signs of sayings and talks, and some that have no place in them.
OWN_SIGNS = "01234!&|()YN[]-,;5yn +\n"


def no_text_at(test, at, read, *handed):
    """Whether reading is refused with NoText and this at."""
    with test.assertRaises(NoText) as caught:
        told = read(*handed)
        test.fail(f"told {told} of {handed}")
    test.assertIs(type(caught.exception), NoText)
    if not strictly(caught.exception.at, at):
        test.fail(f"at {caught.exception.at}, not {at}, of {handed}")


def at_of(read, places, text):
    """The field at of what is refused; None where it isn't."""
    try:
        read(places, text)
    except NoText as wrong:
        return wrong.at
    return None


def changed(text, chance):
    """A text with some signs taken out, put in, exchanged or doubled."""
    for _ in range(chance.randint(1, 2)):
        at = chance.randint(0, len(text))
        text = chance.choice((text[:at] + text[at + 1:], text[:at] + chance.choice(OWN_SIGNS) + text[at:],
                              text[:at] + chance.choice(OWN_SIGNS) + text[at + 1:], text[:at] + text[at - 1:],
                              text[:at], text[:at] + chance.choice(SIGNS) + text[at:]))
    return text


def case_plainly(text):
    """The case that a text writes, or None."""
    for places in range(1, 6):
        word = "[01]" * places
        if re.fullmatch(f"{word}(,{word})* {word}(,{word})*", text):
            sides = [[tuple(map(int, each)) for each in side.split(",")] for side in text.split(" ")]
            if all(side == sorted(set(side)) for side in sides) and not set(sides[0]) & set(sides[1]):
                return (places, tuple(sides[0]), tuple(sides[1]))
    return None


class Sayings(unittest.TestCase):
    def wrong(self, places, text, at):
        no_text_at(self, at, read_saying, places, text)

    def test_written_out(self):
        self.assertEqual(read_saying(3, "2"), ("is", 2, 1))
        self.assertEqual(read_saying(3, "!2"), ("is", 2, 0))
        self.assertEqual(read_saying(2, "(0&!1)"), ("and", ("is", 0, 1), ("is", 1, 0)))
        self.assertEqual(read_saying(5, "(4|((!3|2)&0))"),
                         ("or", ("is", 4, 1), ("and", ("or", ("is", 3, 0), ("is", 2, 1)), ("is", 0, 1))))

    def test_read_back(self):
        for places in range(1, 6):
            sayings = some_sayings(places, 80, 1000 + places)
            sayings += [by(case) for case in some_cases(places, 3, 1010 + places) for by in (by_yes, by_no)]
            for saying in sayings:
                told = read_saying(places, saying_plainly(saying))
                self.assertTrue(strictly(told, saying))
                self.assertTrue(is_plain(told))
                self.assertEqual(read_saying(places, show_saying(saying)), saying)

    def test_where_it_goes_wrong(self):
        for text, at in (("", 0), ("2", 0), ("!2", 1), ("!", 1), ("!!0", 1), ("!(0&1)", 1), ("0 ", 1), (" 0", 0),
                         ("00", 1), ("0&1", 1), ("(0&1", 4), ("(0&1))", 5), ("(0&1)&0", 5), ("(0&&1)", 3), ("(0)", 2),
                         ("(0&)", 3), ("(&0)", 1), ("()", 1), ("(", 1), ("((", 2), ("((0&1)", 6), ("((0&1)|", 7),
                         ("((0&1)|2)", 7), ("(0+1)", 2), ("(0&1|0)", 4), ("(0|!)", 4), ("(0|!2)", 4), ("(0|!1", 5),
                         ("(0|1]", 4), ("[0|1]", 0), ("Y", 0), ("-", 0), ("-0", 0), ("0\n", 1), ("(0&1)\n", 5),
                         ("(0 & 1)", 2), ("(0&1;0)", 4), ("x", 0), ("0!", 1), ("(0!1)", 2), ("(01)", 2), ("5", 0)):
            self.wrong(2, text, at)

    def test_places(self):
        for places in range(1, 6):
            for figure in range(10):
                if figure < places:
                    self.assertEqual(read_saying(places, f"{figure}"), ("is", figure, 1))
                    self.assertEqual(read_saying(places, f"!{figure}"), ("is", figure, 0))
                else:
                    self.wrong(places, f"{figure}", 0)
                    self.wrong(places, f"!{figure}", 1)
                    self.wrong(places, f"(0&{figure})", 3)

    def test_no_text(self):
        for thing in ANYTHING:
            if type(thing) is not str:
                self.wrong(2, thing, 0)
        for thing in (["0"], ("0",), {"0": 0}, [["0"]], b"0", 0, None, True):
            self.wrong(1, thing, 0)

    def test_each_sign_in_each_place(self):
        # All signs that may stand behind each beginning of a short saying, found by writing all short sayings.
        places = 2
        ones = [("is", place, bit) for place in range(places) for bit in (0, 1)]
        twos = ones + [(join, one, other) for join in ("and", "or") for one in ones for other in ones]
        pairs = [(one, other) for one in twos for other in twos if (one in ones or other in ones)]
        texts = {saying_plainly(saying) for saying in twos}
        texts |= {saying_plainly((join,) + pair) for join in ("and", "or") for pair in pairs}
        begin = {text[:at] for text in texts for at in range(len(text) + 1)}
        for text in {saying_plainly(saying) for saying in twos}:
            for at in range(len(text) + 1):
                for sign in SIGNS:
                    if text[:at] + sign not in begin:
                        self.wrong(places, text[:at] + sign, at)
                        self.wrong(places, text[:at] + sign + text[at:], at)
                if text[:at] not in texts:
                    self.wrong(places, text[:at], at)

    def test_each_beginning_may_go_on(self):
        for places in range(1, 6):
            for saying in some_sayings(places, 30, 1020 + places):
                text = saying_plainly(saying)
                for at in range(len(text)):
                    told = at_of(read_saying, places, text[:at])
                    self.assertEqual(told, at, text[:at])
                    self.wrong(places, text[:at] + "?" + text[at:], at)
                self.wrong(places, text + "0", len(text))

    def test_what_comes_ahead_of_at_may_go_on(self):
        chance = random.Random(1)
        refused = 0
        for places in range(1, 6):
            for saying in some_sayings(places, 80, 1030 + places):
                text = changed(saying_plainly(saying), chance)
                at = at_of(read_saying, places, text)
                if at is None:
                    self.assertEqual(saying_plainly(read_saying(places, text)), text)
                    continue
                refused += 1
                self.assertEqual(at_of(read_saying, places, text[:at + 1]), at)
                self.gone_on(places, text[:at])
        self.assertGreater(refused, 200)

    def gone_on(self, places, text):
        """Ends a text sign by sign, by what at says."""
        while at_of(read_saying, places, text) is not None:
            self.assertEqual(at_of(read_saying, places, text), len(text))
            text += [sign for sign in ")&0" if at_of(read_saying, places, text + sign) in (None, len(text) + 1)][0]
        self.assertTrue(looks_like_saying(places, read_saying(places, text)))
        self.assertEqual(saying_plainly(read_saying(places, text)), text)

    def test_long_ones(self):
        self.wrong(1, "(" * 3000, 3000)
        self.wrong(1, "!" * 3000, 1)
        self.wrong(1, "(" * 2999 + ")", 2999)
        self.wrong(1, "0" * 3000, 1)
        self.wrong(3, "(0&" * 1000, 3000)
        text = "(" * 700 + "0" + "|0)" * 700
        self.assertEqual(deep(read_saying(1, text)), 700)
        self.wrong(1, text[:-1], len(text) - 1)
        self.wrong(1, text + ")", len(text))
        text = "(0&" * 700 + "!0" + ")" * 700
        self.assertEqual(show_saying(read_saying(1, text)), text)


class Talks(unittest.TestCase):
    def wrong(self, places, text, at):
        no_text_at(self, at, read_talk, places, text)

    def test_written_out(self):
        self.assertEqual(read_talk(3, "2"), ("end", 2))
        self.assertEqual(read_talk(2, "Y[01,11](0;N[-](1;0))"),
                         ("yes", ((0, 1), (1, 1)), ("end", 0), ("no", (), ("end", 1), ("end", 0))))
        self.assertEqual(read_talk(1, "N[0](Y[0,1](0;0);0)"),
                         ("no", ((0,),), ("yes", ((0,), (1,)), ("end", 0), ("end", 0)), ("end", 0)))

    def test_read_back(self):
        for places in range(1, 6):
            talks = some_talks(places, 80, 1100 + places)
            talks += [talk_of(case, by(case)) for case in some_cases(places, 3, 1110 + places) for by in (by_yes, by_no)]
            for talk in talks:
                told = read_talk(places, talk_plainly(talk))
                self.assertTrue(strictly(told, talk))
                self.assertTrue(is_plain(told))
                self.assertEqual(read_talk(places, show_talk(talk)), talk)

    def test_where_it_goes_wrong(self):
        for text, at in (("", 0), ("2", 0), ("!0", 0), ("00", 1), ("y", 0), ("Y", 1), ("Y(", 1), ("Y[", 2), ("Y[]", 2),
                         ("Y[-", 3), ("Y[-]", 4), ("Y[--]", 3), ("Y[-,01]", 3), ("Y[0", 3), ("Y[0]", 3), ("Y[2", 2),
                         ("Y[012](0;0)", 4), ("Y[010](0;0)", 4), ("Y[01,", 5), ("Y[01,]", 5), ("Y[01,-]", 5),
                         ("Y[01 ,11]", 4), ("Y[01,11](0;0)", None), ("Y[01](", 6), ("Y[01](0", 7), ("Y[01](0;", 8),
                         ("Y[01](0;0", 9), ("Y[01](0;0)0", 10), ("Y[01](0;0))", 10), ("Y[01](0,0)", 7),
                         ("Y[01](2;0)", 6), ("Y[01](0;2)", 8), ("Y[01](;0)", 6), ("Y[01](0;)", 8), ("Y[01]0;0)", 5),
                         ("Y[01]((0;0)", 6), ("Y[01](0;0]", 9), ("Y[01)(0;0)", 4), ("(0;0)", 0), ("[01](0;0)", 0),
                         ("N[01](Y[2](0;0);0)", 8), ("N[01](0;Y[11](0;1)", 18), ("N[01](0;Y[11](0;1));", 19),
                         (" Y[01](0;0)", 0), ("Y[01](0;0) ", 10), ("Y[01](0;0)\n", 10), ("Y [01](0;0)", 1),
                         ("YY", 1), ("YN[-](0;0)", 1), ("Y[01](0;!1)", 8)):
            if at is None:
                self.assertIs(at_of(read_talk, 2, text), None)
            else:
                self.wrong(2, text, at)

    def test_says_are_rising(self):
        for text, at in (("Y[11,", 4), ("Y[11,00](0;0)", 4), ("Y[01,00](0;0)", 5), ("Y[01,01](0;0)", 5),
                         ("Y[00,00](0;0)", 6), ("Y[10,01](0;0)", 5), ("Y[10,10](0;0)", 6), ("Y[10,11,", 7),
                         ("Y[00,01,10,11,", 13), ("Y[00,01,0", 8), ("Y[00,10,0", 8), ("Y[00,10,10", 9),
                         ("N[00,01,1", 9), ("Y[00,0", 6), ("Y[00,00", 6)):
            self.wrong(2, text, at)
        self.wrong(1, "Y[1,", 3)
        self.wrong(1, "Y[0,0](0;0)", 4)
        self.wrong(1, "Y[0,1,", 5)
        self.wrong(5, "Y[11111,", 7)
        self.wrong(5, "N[01111,01", 8)
        self.wrong(5, "N[01011,01010](0;0)", 10)
        self.wrong(5, "N[01011,01011](0;0)", 10)
        self.wrong(5, "N[01011,0110", 12)
        self.wrong(5, "N[01010,01010", 12)
        self.wrong(5, "N[01010,01001", 11)

    def test_any_two_words(self):
        for places in range(1, 6):
            for one, other in itertools.product(words(places), repeat=2):
                text = f"Y[{words_plainly((one, other))}](0;0)"
                if one < other:
                    self.assertEqual(read_talk(places, text), ("yes", (one, other), ("end", 0), ("end", 0)))
                    continue
                if one == (1,) * places:
                    self.wrong(places, text, 2 + places)
                    continue
                # The first bit with which no greater word begins any more.
                greater = [word for word in words(places) if word > one]
                right = [size for size in range(1, places + 1)
                         if not any(word[:size] == other[:size] for word in greater)][0]
                self.wrong(places, text, 2 + places + 1 + right - 1)

    def test_places(self):
        for places in range(1, 6):
            for figure in range(10):
                if figure < places:
                    self.assertEqual(read_talk(places, f"{figure}"), ("end", figure))
                else:
                    self.wrong(places, f"{figure}", 0)
                    self.wrong(places, f"Y[-](0;{figure})", 7)
            for size in range(1, 8):
                text = "Y[" + "0" * size + "](0;0)"
                if size == places:
                    self.assertEqual(talk_deep(read_talk(places, text)), 1)
                else:
                    self.wrong(places, text, 2 + min(size, places))

    def test_no_text(self):
        for thing in ANYTHING:
            if type(thing) is not str:
                self.wrong(2, thing, 0)
        for thing in (["0"], ("0",), {"0": 0}, [["0"]], b"0", 0, None, True):
            self.wrong(1, thing, 0)

    def test_each_sign_in_each_place(self):
        # All signs that may stand behind each beginning of a short talk, found by writing all short talks.
        for places in (1, 2):
            ends = [("end", place) for place in range(places)]
            turns = [("yes", (), ends[0], ends[0]), ("no", (), ends[0], ends[0])]
            says = [some for size in range(2 ** places + 1) for some in itertools.combinations(words(places), size)]
            parts = [(hand, some) for hand in ("yes", "no") for some in says]
            short = {talk_plainly(part + pair) for part in parts for pair in itertools.product(ends, repeat=2)}
            short |= {talk_plainly(end) for end in ends}
            texts = {talk_plainly(part + pair) for part in parts for pair in itertools.product(ends + turns, repeat=2)}
            begin = {text[:at] for text in texts | short for at in range(len(text) + 1)}
            done = set()
            for text in sorted(short):
                for at in range(len(text) + 1):
                    if text[:at] in done:
                        continue
                    done.add(text[:at])
                    for sign in SIGNS:
                        if text[:at] + sign not in begin:
                            self.wrong(places, text[:at] + sign, at)
                            self.wrong(places, text[:at] + sign + text[at:], at)
                    if text[:at] not in short:
                        self.wrong(places, text[:at], at)

    def test_each_beginning_may_go_on(self):
        chance = random.Random(5)
        for places in range(1, 6):
            for talk in some_talks(places, 20, 1120 + places):
                text = talk_plainly(talk)
                for at in range(len(text)) if len(text) < 200 else chance.sample(range(len(text)), 50):
                    self.assertEqual(at_of(read_talk, places, text[:at]), at, text[:at])
                    self.wrong(places, text[:at] + "?" + text[at:], at)
                self.wrong(places, text + "0", len(text))

    def test_what_comes_ahead_of_at_may_go_on(self):
        chance = random.Random(2)
        refused = 0
        for places in range(1, 6):
            for talk in some_talks(places, 80, 1130 + places):
                text = changed(talk_plainly(talk), chance)
                at = at_of(read_talk, places, text)
                if at is None:
                    self.assertEqual(talk_plainly(read_talk(places, text)), text)
                    continue
                refused += 1
                self.assertEqual(at_of(read_talk, places, text[:at + 1]), at)
                self.gone_on(places, text[:at])
        self.assertGreater(refused, 200)

    def gone_on(self, places, text):
        """Ends a text sign by sign, by what at says."""
        while at_of(read_talk, places, text) is not None:
            self.assertEqual(at_of(read_talk, places, text), len(text))
            text += [sign for sign in ")];[(01"
                     if at_of(read_talk, places, text + sign) in (None, len(text) + 1)][0]
        self.assertTrue(looks_like_talk(places, read_talk(places, text)))
        self.assertEqual(talk_plainly(read_talk(places, text)), text)

    def test_long_ones(self):
        self.wrong(1, "Y[-](" * 600, 3000)
        self.wrong(1, "Y" * 3000, 1)
        self.wrong(1, "N[0](0;" * 428, 2996)
        text = "Y[-](" * 300 + "0" + ";0)" * 300
        self.assertEqual(talk_deep(read_talk(1, text)), 300)
        self.wrong(1, text[:-1], len(text) - 1)
        self.wrong(1, text + ";", len(text))
        all_says = f"N[{words_plainly(words(5))}](4;0)"
        self.assertEqual(read_talk(5, all_says), ("no", tuple(words(5)), ("end", 4), ("end", 0)))


class VeryDeep(unittest.TestCase):
    def test_what_was_told_is_read_back(self):
        saying = ("is", 0, 1)
        for _ in range(2000):
            saying = joined("or", [saying, ("is", 0, 1)])
        talk = talk_of((1, ((1,),), ((0,),)), saying)
        self.assertEqual(show_saying(read_saying(1, show_saying(saying))), show_saying(saying))
        self.assertEqual(show_talk(read_talk(1, show_talk(talk))), show_talk(talk))


class Tables(unittest.TestCase):
    def wrong(self, text):
        no_text_at(self, 0, read_table, text)

    def test_read_back(self):
        for size in (2, 4, 8):
            for table in words(size):
                self.assertTrue(strictly(read_table("".join(map(str, table))), table))
                self.assertEqual(read_table(show_table(table)), table)
        chance = random.Random(3)
        for size in (16, 32):
            for _ in range(40):
                table = tuple(chance.choice((0, 1)) for _ in range(size))
                self.assertTrue(strictly(read_table("".join(map(str, table))), table))
        self.assertEqual(read_table("00"), (0, 0))

    def test_wrong(self):
        for size in range(0, 70):
            if size not in (2, 4, 8, 16, 32):
                self.wrong("0" * size)
        for text in ("-", "02", "0 ", " 0", "01\n", "0110 ", "01,10", "0-", "ab", "0x", "+1", "-1", "1_", "0_10", "01\r\n"):
            self.wrong(text)
        for at, sign in itertools.product(range(4), SIGNS):
            if sign not in "01":
                self.wrong("0110"[:at] + sign + "0110"[at + 1:])
        self.wrong("0" * 3000)

    def test_no_text(self):
        for thing in ANYTHING:
            if type(thing) is str and len(thing) == 2 and set(thing) <= {"0", "1"}:
                self.assertEqual(read_table(thing), tuple(map(int, thing)))
            else:
                self.wrong(thing)
        for thing in ((0, 1), ["0", "1"], ("0", "1"), {"0": 0, "1": 1}, b"01", 11, 10):
            self.wrong(thing)


class Cases(unittest.TestCase):
    def wrong(self, text):
        no_text_at(self, 0, read_case, text)

    def test_written_out(self):
        self.assertEqual(read_case("01,10 00"), (2, ((0, 1), (1, 0)), ((0, 0),)))
        self.assertEqual(read_case("1 0"), (1, ((1,),), ((0,),)))
        self.assertEqual(read_case("11111 00000"), (5, ((1,) * 5,), ((0,) * 5,)))

    def test_read_back(self):
        for places in range(1, 6):
            for case in all_small_cases(places) if places < 3 else some_cases(places, 40, 1200 + places):
                told = read_case(f"{words_plainly(case[1])} {words_plainly(case[2])}")
                self.assertTrue(strictly(told, case))
                self.assertEqual(read_case(f"{show_words(case[1])} {show_words(case[2])}"), case)

    def test_wrong(self):
        for text in ("", " ", "01", "01 ", " 01", "01  10", "01 10 11", " 01 10", "01 10 ", "- 01", "01 -", "- -",
                     "10,01 00", "01,01 00", "00 10,01", "00 01,01", "01 01", "01,10 10,11", "01 1", "1 01",
                     "01,1 00", "01,10 0", "01 00,0", "01,111 00", "000000 111111", "01, 00", ",01 00", "01,,10 00",
                     "01 ,", "01 00,", "02 00", "01 0a", "01\n00", "01 00\n", "\n01 00", "01\t00", "01,10,00", "01;10 00",
                     "Y N", "0,1 0", "1 0,1", "0 0", "01 00 -", "-,01 00"):
            self.wrong(text)

    def test_any_two_words(self):
        for one, other in itertools.product(words(2), repeat=2):
            both = words_plainly((one, other))
            for rest in words(2):
                if one < other and rest not in (one, other):
                    self.assertEqual(read_case(f"{both} {words_plainly((rest,))}"), (2, (one, other), (rest,)))
                    self.assertEqual(read_case(f"{words_plainly((rest,))} {both}"), (2, (rest,), (one, other)))
                else:
                    self.wrong(f"{both} {words_plainly((rest,))}")
                    self.wrong(f"{words_plainly((rest,))} {both}")

    def test_changed(self):
        chance = random.Random(4)
        refused = 0
        for places in range(1, 6):
            for case in some_cases(places, 100, 1210 + places):
                text = changed(f"{words_plainly(case[1])} {words_plainly(case[2])}", chance)
                right = case_plainly(text)
                if right is None:
                    self.wrong(text)
                    refused += 1
                else:
                    self.assertTrue(strictly(read_case(text), right))
        self.assertGreater(refused, 200)

    def test_no_text(self):
        for thing in ANYTHING:
            self.wrong(thing)
        for thing in (("01", "00"), ["01 00"], (2, ((0, 1),), ((0, 0),)), {"01": "00"}, b"01 00"):
            self.wrong(thing)

    def test_each_sign_in_each_place(self):
        for text in ("01,10 00", "0 1", "011 000,101"):
            for at, sign in itertools.product(range(len(text) + 1), SIGNS):
                for other in (text[:at] + sign + text[at + 1:], text[:at] + sign + text[at:]):
                    right = case_plainly(other)
                    if right is None:
                        self.wrong(other)
                    else:
                        self.assertTrue(strictly(read_case(other), right))


if __name__ == "__main__":
    unittest.main()
