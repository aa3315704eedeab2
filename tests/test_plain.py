import unittest

from tests.samples import all_small_cases, is_plain, some_cases, words
from unlikeplace.cases import case_by
from unlikeplace.plain import by_no, by_yes, joined
from unlikeplace.sayings import deep, is_saying, leaves, missed, parts
from unlikeplace.words import height

ONES = [("is", place, bit) for place in range(5) for bit in (0, 1)]


def joined_plainly(join, some):
    if len(some) == 1:
        return some[0]
    half = len(some) // 2 + len(some) % 2
    return (join, joined_plainly(join, some[:half]), joined_plainly(join, some[half:]))


def by_yes_plainly(case):
    each = [joined_plainly("and", [("is", place, word[place]) for place in range(case[0])]) for word in case[1]]
    return joined_plainly("or", each)


def by_no_plainly(case):
    each = [joined_plainly("or", [("is", place, 1 - word[place]) for place in range(case[0])]) for word in case[2]]
    return joined_plainly("and", each)


class Joined(unittest.TestCase):
    def test_up_to_five_written_out(self):
        a, b, c, d, e = ONES[:5]
        for join in ("and", "or"):
            self.assertEqual(joined(join, [a]), a)
            self.assertEqual(joined(join, [a, b]), (join, a, b))
            self.assertEqual(joined(join, [a, b, c]), (join, (join, a, b), c))
            self.assertEqual(joined(join, [a, b, c, d]), (join, (join, a, b), (join, c, d)))
            self.assertEqual(joined(join, [a, b, c, d, e]), (join, (join, (join, a, b), c), (join, d, e)))

    def test_of_sayings_that_are_joined_themselves(self):
        a, b, c = ONES[:3]
        one = ("or", a, b)
        self.assertEqual(joined("and", [one]), one)
        self.assertEqual(joined("and", [c, one, c]), ("and", ("and", c, one), c))
        self.assertEqual(joined("or", [one, c]), ("or", one, c))

    def test_any_number(self):
        for many in range(1, 70):
            some = [ONES[number % len(ONES)] for number in range(many)]
            for join in ("and", "or"):
                told = joined(join, some)
                self.assertEqual(told, joined_plainly(join, some))
                self.assertTrue(is_saying(5, told))
                self.assertTrue(is_plain(told))
                self.assertEqual((leaves(told), deep(told)), (many, height(many)))

    def test_the_list_stays_and_counts_no_more(self):
        a, b, c = ONES[:3]
        some = [a, b, c]
        told = joined("or", some)
        self.assertEqual(some, [a, b, c])
        some.reverse()
        some.append(a)
        self.assertEqual(told, ("or", ("or", a, b), c))
        alone = [a]
        told = joined("and", alone)
        alone[0] = b
        self.assertEqual(told, a)


class ByWords(unittest.TestCase):
    def test_written_out(self):
        case = case_by((0, 1, 1, 0))
        self.assertEqual(by_yes(case), ("or", ("and", ("is", 0, 0), ("is", 1, 1)), ("and", ("is", 0, 1), ("is", 1, 0))))
        self.assertEqual(by_no(case), ("and", ("or", ("is", 0, 1), ("is", 1, 1)), ("or", ("is", 0, 0), ("is", 1, 0))))
        self.assertEqual(by_yes((1, ((1,),), ((0,),))), ("is", 0, 1))
        self.assertEqual(by_no((1, ((1,),), ((0,),))), ("is", 0, 1))
        self.assertEqual(by_yes((1, ((0,),), ((1,),))), ("is", 0, 0))
        self.assertEqual(by_no((1, ((0,),), ((1,),))), ("is", 0, 0))

    def check(self, case):
        for told, right in ((by_yes(case), by_yes_plainly(case)), (by_no(case), by_no_plainly(case))):
            self.assertEqual(told, right)
            self.assertTrue(is_plain(told))
            self.assertTrue(is_saying(case[0], told))
            self.assertIs(parts(case, told), True)
            self.assertIsNone(missed(case, told))
        self.assertEqual(leaves(by_yes(case)), case[0] * len(case[1]))
        self.assertEqual(leaves(by_no(case)), case[0] * len(case[2]))

    def test_both_part_the_case(self):
        for places in range(1, 6):
            for case in all_small_cases(places) if places < 3 else some_cases(places, 60, places):
                self.check(case)

    def test_all_words_but_one(self):
        for places in range(1, 6):
            for word in words(places):
                rest = tuple(other for other in words(places) if other != word)
                self.check((places, (word,), rest))
                self.check((places, rest, (word,)))


if __name__ == "__main__":
    unittest.main()
