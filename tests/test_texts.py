import itertools
import unittest

from tests.samples import some_cases, some_sayings, some_talks, words
from unlikeplace.leads import talk_of
from unlikeplace.plain import joined
from unlikeplace.texts import show_saying, show_table, show_talk, show_words


def words_plainly(some):
    return ",".join("".join(map(str, word)) for word in some) or "-"


def saying_plainly(saying):
    if saying[0] == "is":
        return {1: "", 0: "!"}[saying[2]] + str(saying[1])
    return "(" + saying_plainly(saying[1]) + {"and": "&", "or": "|"}[saying[0]] + saying_plainly(saying[2]) + ")"


def talk_plainly(talk):
    if talk[0] == "end":
        return str(talk[1])
    return ("Y[" if talk[0] == "yes" else "N[") + words_plainly(talk[1]) + "](" + ";".join(
        talk_plainly(part) for part in talk[2:]) + ")"


class Show(unittest.TestCase):
    def check(self, told, right):
        self.assertIs(type(told), str)
        self.assertEqual(told, right)

    def test_words(self):
        self.check(show_words(()), "-")
        self.check(show_words(((0,),)), "0")
        self.check(show_words(((0, 1, 1, 0),)), "0110")
        self.check(show_words(((0, 1), (1, 1))), "01,11")
        self.check(show_words(tuple(words(2))), "00,01,10,11")
        for places in range(1, 6):
            for case in some_cases(places, 10, 900 + places):
                self.check(show_words(case[1]), words_plainly(case[1]))

    def test_tables(self):
        self.check(show_table((0, 1)), "01")
        self.check(show_table((0, 1, 1, 0)), "0110")
        self.check(show_table((1,) * 32), "1" * 32)
        for table in words(8):
            self.check(show_table(table), "".join(map(str, table)))

    def test_sayings(self):
        self.check(show_saying(("is", 2, 1)), "2")
        self.check(show_saying(("is", 2, 0)), "!2")
        self.check(show_saying(("and", ("is", 0, 1), ("is", 1, 0))), "(0&!1)")
        self.check(show_saying(("or", ("is", 0, 0), ("is", 1, 1))), "(!0|1)")
        self.check(show_saying(("or", ("is", 4, 1), ("and", ("or", ("is", 3, 0), ("is", 2, 1)), ("is", 0, 1)))),
                   "(4|((!3|2)&0))")
        for place, bit in itertools.product(range(5), (0, 1)):
            self.check(show_saying(("is", place, bit)), {0: f"!{place}", 1: f"{place}"}[bit])
        for places in range(1, 6):
            for saying in some_sayings(places, 60, 910 + places):
                self.check(show_saying(saying), saying_plainly(saying))

    def test_talks(self):
        self.check(show_talk(("end", 2)), "2")
        self.check(show_talk(("yes", ((0, 1), (1, 1)), ("end", 0), ("no", (), ("end", 1), ("end", 0)))),
                   "Y[01,11](0;N[-](1;0))")
        self.check(show_talk(("no", ((0,),), ("yes", (), ("end", 0), ("end", 0)), ("end", 0))), "N[0](Y[-](0;0);0)")
        for places in range(1, 6):
            for talk in some_talks(places, 60, 920 + places):
                self.check(show_talk(talk), talk_plainly(talk))

    def test_very_deep(self):
        saying = ("is", 0, 1)
        for _ in range(2000):
            saying = joined("or", [saying, ("is", 0, 1)])
        self.check(show_saying(saying), "(" * 2000 + "0" + "|0)" * 2000)
        talk = talk_of((1, ((1,),), ((0,),)), saying)
        self.check(show_talk(talk), "Y[-](" * 2000 + "0" + ";0)" * 2000)


if __name__ == "__main__":
    unittest.main()
