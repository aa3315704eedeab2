import itertools
import random
import unittest
from collections import namedtuple

from tests.samples import ANYTHING, is_plain, looks_like_word, some_cases, words
from unlikeplace.cases import case_by, case_of, pairs_in
from unlikeplace.errors import NoCase
from unlikeplace.words import all_words


def makes_case(places, yes, no):
    if type(places) is not int or not 1 <= places <= 5:
        return False
    for some in (yes, no):
        if type(some) not in (list, tuple) or not some:
            return False
        if not all(looks_like_word(places, word) for word in some) or len(set(some)) != len(some):
            return False
    return not set(yes) & set(no)


class CaseOf(unittest.TestCase):
    def check(self, places, yes, no):
        """Either the case, or NoCase and nothing else."""
        if makes_case(places, yes, no):
            self.assertEqual(case_of(places, yes, no), (places, tuple(sorted(yes)), tuple(sorted(no))))
            return
        with self.assertRaises(NoCase) as caught:
            case_of(places, yes, no)
        self.assertIs(type(caught.exception), NoCase)

    def test_lists_and_tuples_in_any_order(self):
        chance = random.Random(2)
        for places in range(1, 6):
            for case in some_cases(places, 40, places):
                yes, no = list(case[1]), list(case[2])
                chance.shuffle(yes)
                chance.shuffle(no)
                for one, other in itertools.product((list, tuple), repeat=2):
                    told = case_of(places, one(yes), other(no))
                    self.assertEqual(told, case)
                    self.assertTrue(is_plain(told))
                    self.assertIs(type(told), tuple)

    def test_all_small_ones(self):
        for places in (1, 2):
            for sorts in itertools.product((0, 1, 2, 3), repeat=2 ** places):
                yes = [word for word, sort in zip(words(places), sorts) if sort & 1]
                no = [word for word, sort in zip(words(places), sorts) if sort & 2]
                self.check(places, yes, no)

    def test_anything_at_each_argument(self):
        for thing in ANYTHING:
            self.check(thing, [(0,)], [(1,)])
            self.check(thing, [(0, 1)], [(1, 1)])
            self.check(1, thing, [(1,)])
            self.check(1, thing, ((0,),))
            self.check(1, [(1,)], thing)
            self.check(2, thing, ((1, 1),))
            self.check(2, [(1, 1)], thing)

    def test_anything_among_the_words(self):
        for thing in ANYTHING:
            for kind in (list, tuple):
                self.check(1, kind([thing]), [(1,)])
                self.check(2, kind([(0, 0), thing]), [(1, 1)])
                self.check(2, kind([thing, (0, 0)]), [(1, 1)])
                self.check(2, [(1, 1)], kind([(0, 0), thing, (1, 0)]))

    def test_words_of_other_places(self):
        for places, others in itertools.permutations(range(1, 6), 2):
            low, high = (0,) * places, (1,) * places
            for wrong in ((0,) * others, (1,) * others):
                self.assertRaises(NoCase, case_of, places, [low, wrong], [high])
                self.assertRaises(NoCase, case_of, places, [low], [high, wrong])
                self.assertRaises(NoCase, case_of, places, [wrong], [high])

    def test_truths_are_no_bits_and_no_places(self):
        self.assertRaises(NoCase, case_of, True, [(0,)], [(1,)])
        self.assertRaises(NoCase, case_of, 1, [(False,)], [(1,)])
        self.assertRaises(NoCase, case_of, 1, [(0,)], [(True,)])

    def test_zero_and_six_places(self):
        self.assertRaises(NoCase, case_of, 0, [()], [(1,)])
        self.assertRaises(NoCase, case_of, 0, [()], [()])
        self.assertRaises(NoCase, case_of, 6, [(0,) * 6], [(1,) * 6])
        self.assertRaises(NoCase, case_of, -1, [(0,)], [(1,)])

    def test_none_of_one_sort(self):
        for empty in ([], ()):
            self.assertRaises(NoCase, case_of, 2, empty, [(0, 1)])
            self.assertRaises(NoCase, case_of, 2, [(0, 1)], empty)
            self.assertRaises(NoCase, case_of, 2, empty, empty)

    def test_a_word_twice_or_in_both(self):
        for places in range(1, 6):
            low, high = (0,) * places, (1,) * places
            self.assertRaises(NoCase, case_of, places, [low, low], [high])
            self.assertRaises(NoCase, case_of, places, [low], (high, high))
            self.assertRaises(NoCase, case_of, places, [low, high], [high])
            self.assertRaises(NoCase, case_of, places, (low,), [high, low])
        self.assertRaises(NoCase, case_of, 2, [(0, 0), (0, 1), (0, 0)], [(1, 1)])

    def test_what_is_handed_in_stays_and_counts_no_more(self):
        yes, no = [(1, 1), (0, 1)], [(1, 0), (0, 0)]
        told = case_of(2, yes, no)
        self.assertEqual((yes, no), ([(1, 1), (0, 1)], [(1, 0), (0, 0)]))
        yes.append((0, 0))
        no.clear()
        self.assertEqual(told, (2, ((0, 1), (1, 1)), ((0, 0), (1, 0))))
        self.assertEqual(case_of(2, [(1, 1), (0, 1)], [(1, 0), (0, 0)]), told)

    def test_what_is_refused_stays(self):
        yes, no = [(1, 1), (0, 1)], [(1, 0), None]
        self.assertRaises(NoCase, case_of, 2, yes, no)
        self.assertEqual((yes, no), ([(1, 1), (0, 1)], [(1, 0), None]))

    def test_what_is_told_is_plain(self):
        two = namedtuple("two", "one other")
        told = case_of(2, two(two(1, 0), two(0, 1)), [two(1, 1)])
        self.assertEqual(told, (2, ((0, 1), (1, 0)), ((1, 1),)))
        self.assertTrue(is_plain(told))


class CaseBy(unittest.TestCase):
    def test_all_tables_of_up_to_three_places(self):
        for places in (1, 2, 3):
            for table in itertools.product((0, 1), repeat=2 ** places):
                if sum(table) in (0, len(table)):
                    with self.assertRaises(NoCase) as caught:
                        case_by(table)
                    self.assertIs(type(caught.exception), NoCase)
                    continue
                rows = list(zip(words(places), table))
                yes = tuple(word for word, bit in rows if bit == 1)
                no = tuple(word for word, bit in rows if bit == 0)
                told = case_by(table)
                self.assertEqual(told, (places, yes, no))
                self.assertEqual(told, case_of(places, list(yes), list(no)))
                self.assertTrue(is_plain(told))

    def test_four_and_five_places(self):
        for places in (4, 5):
            size = 2 ** places
            for at in range(size):
                word = words(places)[at]
                rest = tuple(other for other in words(places) if other != word)
                single = tuple(int(k == at) for k in range(size))
                self.assertEqual(case_by(single), (places, (word,), rest))
                self.assertEqual(case_by(tuple(1 - bit for bit in single)), (places, rest, (word,)))

    def test_none_of_one_sort(self):
        for places in range(1, 6):
            self.assertRaises(NoCase, case_by, (0,) * 2 ** places)
            self.assertRaises(NoCase, case_by, (1,) * 2 ** places)


class PairsIn(unittest.TestCase):
    def test_all_of_them_rising(self):
        for places in range(1, 6):
            for case in some_cases(places, 20, places):
                told = pairs_in(case)
                self.assertIs(type(told), list)
                self.assertEqual(told, sorted({(yes, no) for yes in case[1] for no in case[2]}))
                self.assertTrue(is_plain(told))

    def test_yes_stands_first(self):
        case = case_of(1, [(1,)], [(0,)])
        self.assertEqual(pairs_in(case), [((1,), (0,))])

    def test_a_new_list_each_time(self):
        case = case_by((0, 1, 1, 0))
        kept = pairs_in(case)
        told = pairs_in(case)
        told.reverse()
        told.pop()
        self.assertEqual(pairs_in(case), kept)
        self.assertEqual(len(kept), 4)
        self.assertEqual(case, (2, ((0, 1), (1, 0)), ((0, 0), (1, 1))))

    def test_lists_of_words_told_before_change_no_case(self):
        all_words(2).clear()
        self.assertEqual(case_by((0, 1, 1, 0)), (2, ((0, 1), (1, 0)), ((0, 0), (1, 1))))


if __name__ == "__main__":
    unittest.main()
