import random
import unittest

from tests.samples import (ANYTHING, all_small_cases, check_told, is_plain, looks_like_saying, some_cases, some_sayings,
                           value_plainly, with_part_changed, words)
from unlikeplace.plain import joined
from unlikeplace.sayings import against, deep, is_saying, leaves, missed, parts, table_by, value, without_not
from unlikeplace.tables import grows, is_table

EXCLUSIVE = ("or", ("and", ("is", 0, 1), ("is", 1, 0)), ("and", ("is", 0, 0), ("is", 1, 1)))


def deep_plainly(saying):
    return 0 if saying[0] == "is" else 1 + max(deep_plainly(saying[1]), deep_plainly(saying[2]))


def leaves_plainly(saying):
    return 1 if saying[0] == "is" else leaves_plainly(saying[1]) + leaves_plainly(saying[2])


def against_plainly(saying):
    if saying[0] == "is":
        return ("is", saying[1], {0: 1, 1: 0}[saying[2]])
    return ({"and": "or", "or": "and"}[saying[0]], against_plainly(saying[1]), against_plainly(saying[2]))


def chain(depth, leaf):
    """A saying so deep, told step by step by the program itself."""
    saying = leaf
    for number in range(depth):
        saying = joined("and" if number % 2 else "or", [saying, ("is", 1, 1)])
    return saying


class IsSaying(unittest.TestCase):
    def check(self, places, thing):
        check_told(self, thing, is_saying(places, thing), looks_like_saying(places, thing))

    def test_sayings(self):
        for places in range(1, 6):
            for saying in some_sayings(places, 60, places):
                self.assertIs(is_saying(places, saying), True)
                for others in range(1, 6):
                    self.check(others, saying)

    def test_each_leaf(self):
        for places in range(1, 6):
            for place in range(-2, 8):
                for bit in range(-2, 4):
                    right = 0 <= place < places and 0 <= bit <= 1
                    self.assertIs(is_saying(places, ("is", place, bit)), right)

    def test_truths_are_no_places_and_no_bits(self):
        for wrong in (("is", False, 1), ("is", True, 1), ("is", 0, True), ("is", 0, False)):
            self.assertIs(is_saying(2, wrong), False)
            self.assertIs(is_saying(2, ("or", ("is", 0, 1), wrong)), False)

    def test_of_anything(self):
        for thing in ANYTHING:
            for places in range(1, 6):
                self.check(places, thing)

    def test_anything_in_the_place_of_each_part(self):
        for saying in (("is", 0, 1), ("and", ("is", 0, 0), ("is", 1, 1)), EXCLUSIVE):
            for thing in ANYTHING:
                for changed in with_part_changed(saying, thing):
                    self.check(2, changed)

    def test_other_lengths_and_words(self):
        leaf = ("is", 0, 1)
        for wrong in ((), ("is",), ("is", 0), ("is", 0, 1, 1), ("and",), ("and", leaf), ("and", leaf, leaf, leaf),
                      ("xor", leaf, leaf), ("", leaf, leaf), ("AND", leaf, leaf), ("not", leaf), ("is", leaf, leaf),
                      ("and", 0, 1), ["is", 0, 1], ["and", leaf, leaf], ("and", ["is", 0, 1], leaf),
                      (("and",), leaf, leaf), ("end", 0), ("yes", (), leaf, leaf)):
            self.assertIs(is_saying(2, wrong), False, wrong)
            self.assertIs(is_saying(2, ("or", leaf, wrong)), False, wrong)
            self.assertIs(is_saying(2, ("or", wrong, leaf)), False, wrong)

    def test_any_depth(self):
        for at in (1, 2):
            good, bad = ("is", 0, 1), ("is", 2, 1)
            for _ in range(100000):
                good, bad = [("and", side, ("is", 1, 0)) if at == 1 else ("or", ("is", 1, 0), side)
                             for side in (good, bad)]
            self.assertIs(is_saying(2, good), True)
            self.assertIs(is_saying(2, bad), False)
            self.assertIs(is_saying(3, bad), True)

    def test_any_size(self):
        good = bad = ("is", 0, 1)
        for number in range(15):
            good, bad = ("and", good, good), ("and", good, bad if number else ("is", 0, 2))
        self.assertIs(is_saying(1, good), True)
        self.assertIs(is_saying(1, bad), False)

    def test_there_are_one_to_five_places(self):
        self.assertIs(is_saying(0, ("is", 0, 1)), False)
        self.assertIs(is_saying(6, ("is", 0, 1)), False)


class Values(unittest.TestCase):
    def test_leaves_at_all_words(self):
        for places in range(1, 6):
            for word in words(places):
                for place in range(places):
                    self.assertEqual(value(("is", place, word[place]), word), 1)
                    self.assertEqual(value(("is", place, 1 - word[place]), word), 0)

    def test_and_and_or(self):
        one, other = ("is", 0, 1), ("is", 1, 1)
        self.assertEqual([value(("and", one, other), word) for word in words(2)], [0, 0, 0, 1])
        self.assertEqual([value(("or", one, other), word) for word in words(2)], [0, 1, 1, 1])

    def test_values_and_tables_at_all_words(self):
        for places in range(1, 6):
            for saying in some_sayings(places, 60, 10 + places):
                right = [value_plainly(saying, word) for word in words(places)]
                self.assertEqual([value(saying, word) for word in words(places)], right)
                table = table_by(places, saying)
                self.assertEqual(table, tuple(right))
                self.assertTrue(is_table(table))
                self.assertTrue(is_plain(table))

    def test_table_of_more_places_than_are_asked(self):
        self.assertEqual(table_by(3, ("is", 1, 0)), (1, 1, 0, 0, 1, 1, 0, 0))
        self.assertEqual(table_by(2, EXCLUSIVE), (0, 1, 1, 0))

    def test_deep_and_leaves(self):
        self.assertEqual((deep(("is", 3, 0)), leaves(("is", 3, 0))), (0, 1))
        self.assertEqual((deep(EXCLUSIVE), leaves(EXCLUSIVE)), (2, 4))
        left = ("and", ("or", ("is", 0, 1), ("is", 1, 1)), ("is", 2, 1))
        right = ("and", ("is", 2, 1), ("or", ("is", 0, 1), ("is", 1, 1)))
        for saying in (left, right):
            self.assertEqual((deep(saying), leaves(saying)), (2, 3))
        for places in range(1, 6):
            for saying in some_sayings(places, 60, 20 + places):
                self.assertEqual(deep(saying), deep_plainly(saying))
                self.assertEqual(leaves(saying), leaves_plainly(saying))

    def test_twelve_deep(self):
        saying = ("is", 0, 1)
        for number in range(12):
            saying = ("or" if number % 2 else "and", ("is", number % 5, number % 2), saying)
        self.assertEqual((deep(saying), leaves(saying)), (12, 13))
        self.assertEqual(table_by(5, saying), tuple(value_plainly(saying, word) for word in words(5)))


class Against(unittest.TestCase):
    def test_and_for_or_and_the_other_bits(self):
        self.assertEqual(against(("is", 2, 1)), ("is", 2, 0))
        self.assertEqual(against(("and", ("is", 0, 1), ("or", ("is", 1, 0), ("is", 0, 0)))),
                         ("or", ("is", 0, 0), ("and", ("is", 1, 1), ("is", 0, 1))))

    def test_the_other_value_at_each_word(self):
        for places in range(1, 6):
            for saying in some_sayings(places, 60, 30 + places):
                told = against(saying)
                self.assertEqual(told, against_plainly(saying))
                self.assertTrue(is_plain(told))
                self.assertEqual(table_by(places, told), tuple(1 - bit for bit in table_by(places, saying)))
                self.assertEqual(against(told), saying)
                self.assertEqual((deep(told), leaves(told)), (deep(saying), leaves(saying)))


class WithoutNot(unittest.TestCase):
    def test_small_ones(self):
        self.assertIs(without_not(("is", 0, 1)), True)
        self.assertIs(without_not(("is", 0, 0)), False)
        self.assertIs(without_not(("and", ("is", 0, 1), ("is", 1, 0))), False)
        self.assertIs(without_not(("or", ("is", 0, 0), ("is", 1, 1))), False)
        self.assertIs(without_not(("or", ("is", 0, 1), ("is", 1, 1))), True)

    def test_one_other_bit_anywhere(self):
        for places in range(1, 6):
            for saying in some_sayings(places, 40, 40 + places, bits=(1,)):
                self.assertIs(without_not(saying), True)
                self.assertIs(without_not(("and", saying, ("is", 0, 0))), False)
                self.assertIs(without_not(("or", ("is", places - 1, 0), saying)), False)
                self.assertIs(without_not(against(saying)), False)

    def test_then_its_table_grows(self):
        for places in range(1, 6):
            for saying in some_sayings(places, 60, 50 + places, bits=(1,)):
                self.assertIs(grows(table_by(places, saying)), True)


class Missed(unittest.TestCase):
    def check(self, case, saying):
        yes = [("yes", word) for word in case[1] if value_plainly(saying, word) == 0]
        no = [("no", word) for word in case[2] if value_plainly(saying, word) == 1]
        right = (yes + no + [None])[0]
        told = missed(case, saying)
        self.assertEqual(told, right)
        self.assertTrue(is_plain(told))
        self.assertIs(parts(case, saying), right is None)
        return (bool(yes), bool(no))

    def test_all_four_ways(self):
        case = (2, ((0, 1), (1, 0)), ((0, 0), (1, 1)))
        self.assertIsNone(missed(case, EXCLUSIVE))
        self.assertIs(parts(case, EXCLUSIVE), True)
        for saying, right in ((("and", ("is", 0, 1), ("is", 1, 0)), ("yes", (0, 1))),
                              (("and", ("is", 0, 0), ("is", 1, 1)), ("yes", (1, 0))),
                              (("or", ("is", 0, 1), ("is", 1, 1)), ("no", (1, 1))),
                              (("or", ("is", 0, 0), ("is", 1, 0)), ("no", (0, 0))),
                              (("is", 0, 1), ("yes", (0, 1))),
                              (against(EXCLUSIVE), ("yes", (0, 1)))):
            self.assertEqual(missed(case, saying), right)
            self.assertIs(parts(case, saying), False)

    def test_many(self):
        ways = set()
        for places in range(1, 6):
            cases = all_small_cases(places) if places < 3 else some_cases(places, 40, places)
            for case in cases:
                for saying in some_sayings(places, 24, 60 + places):
                    ways.add(self.check(case, saying))
        self.assertEqual(len(ways), 4)


class HandedIn(unittest.TestCase):
    def test_what_was_told_may_be_deep(self):
        saying = chain(5000, ("is", 0, 1))
        self.assertEqual((deep(saying), leaves(saying)), (5000, 5001))
        self.assertIs(is_saying(2, saying), True)
        self.assertIs(without_not(saying), True)
        self.assertEqual(table_by(2, saying), (0, 1, 0, 1))
        self.assertEqual(table_by(2, chain(1, ("is", 0, 1))), (0, 1, 1, 1))
        told = against(saying)
        self.assertEqual((deep(told), leaves(told)), (5000, 5001))
        self.assertEqual(table_by(2, told), (1, 0, 1, 0))
        case = (2, ((0, 1), (1, 1)), ((0, 0), (1, 0)))
        self.assertIs(parts(case, saying), True)
        self.assertEqual(missed(case, told), ("yes", (0, 1)))

    def test_the_same_again_whatever_was_asked_between(self):
        chance = random.Random(3)
        asked = some_sayings(3, 30, 70)
        case = some_cases(3, 1, 4)[0]

        def all_told(saying):
            return (table_by(3, saying), against(saying), missed(case, saying), deep(saying), leaves(saying))
        before = [all_told(saying) for saying in asked]
        order = list(range(30))
        chance.shuffle(order)
        for at in order:
            self.assertEqual(all_told(asked[at]), before[at])


if __name__ == "__main__":
    unittest.main()
