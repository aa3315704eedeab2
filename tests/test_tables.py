import itertools
import random
import unittest

from tests.samples import ANYTHING, check_told, is_plain, words
from unlikeplace.tables import grows, is_table, places_of, table_of, value_at

SIZES = (2, 4, 8, 16, 32)


def tables_of(places):
    """All tables of up to three places, some hundred of more."""
    if places <= 3:
        return list(itertools.product((0, 1), repeat=2 ** places))
    chance = random.Random(places)
    size = 2 ** places
    mixed = [tuple(chance.randrange(2) for _ in range(size)) for _ in range(100)]
    single = [tuple(int(k == at) for k in range(size)) for at in range(size)]
    return mixed + single + [(0,) * size, (1,) * size]


def grows_plainly(places, table):
    values = dict(zip(words(places), table))
    return all(values[low] <= values[high] for low in values for high in values
               if all(one <= other for one, other in zip(low, high)))


class IsTable(unittest.TestCase):
    def test_tables(self):
        for places in range(1, 6):
            for table in tables_of(places):
                self.assertIs(is_table(table), True)

    def test_other_lengths(self):
        for size in range(70):
            self.assertIs(is_table((0,) * size), size in SIZES, size)
            self.assertIs(is_table((1,) * size), size in SIZES, size)

    def test_of_anything(self):
        for thing in ANYTHING:
            right = (type(thing) is tuple and len(thing) in SIZES
                     and all(type(bit) is int and bit in (0, 1) for bit in thing))
            check_told(self, thing, is_table(thing), right)

    def test_another_thing_in_each_place(self):
        for size in SIZES:
            for at in range(size):
                for thing in ANYTHING:
                    table = (0,) * at + (thing,) + (1,) * (size - at - 1)
                    check_told(self, table, is_table(table), type(thing) is int and thing in (0, 1))

    def test_lists_texts_and_truths_are_none(self):
        self.assertIs(is_table([0, 1]), False)
        self.assertIs(is_table("01"), False)
        self.assertIs(is_table((0, True)), False)
        self.assertIs(is_table((False, 1)), False)


class Values(unittest.TestCase):
    def test_places_of(self):
        for places in range(1, 6):
            for table in tables_of(places):
                self.assertEqual(places_of(table), places)

    def test_value_at_all_words(self):
        for places in range(1, 6):
            for table in tables_of(places):
                told = [value_at(table, word) for word in words(places)]
                self.assertEqual(told, list(table))

    def test_the_first_place_counts_most(self):
        self.assertEqual(value_at((0, 0, 1, 0), (1, 0)), 1)
        self.assertEqual(value_at((0, 0, 1, 0), (0, 1)), 0)


class TableOf(unittest.TestCase):
    def test_one_at_just_these(self):
        chance = random.Random(1)
        for places in range(1, 6):
            for table in tables_of(places):
                some = [word for word, bit in zip(words(places), table) if bit]
                chance.shuffle(some)
                told = table_of(places, some)
                self.assertEqual(told, table)
                self.assertTrue(is_table(told))

    def test_some_twice(self):
        self.assertEqual(table_of(1, [(1,), (1,)]), (0, 1))
        self.assertEqual(table_of(2, [(1, 0), (0, 1), (1, 0), (0, 1), (1, 0)]), (0, 1, 1, 0))
        for places in range(1, 6):
            self.assertEqual(table_of(places, words(places) * 2), (1,) * 2 ** places)

    def test_none_and_all(self):
        for places in range(1, 6):
            self.assertEqual(table_of(places, []), (0,) * 2 ** places)
            self.assertEqual(table_of(places, words(places)), (1,) * 2 ** places)

    def test_the_list_stays_and_counts_no_more(self):
        some = [(1, 1), (0, 1), (1, 1)]
        told = table_of(2, some)
        self.assertEqual(some, [(1, 1), (0, 1), (1, 1)])
        some.append((0, 0))
        self.assertEqual(told, (0, 1, 0, 1))
        self.assertTrue(is_plain(told))
        self.assertEqual(table_of(2, [(1, 1), (0, 1), (1, 1)]), (0, 1, 0, 1))


class Grows(unittest.TestCase):
    def test_against_all_words_below_all_words(self):
        for places in range(1, 6):
            for table in tables_of(places):
                self.assertIs(grows(table), grows_plainly(places, table), table)

    def test_how_many_grow(self):
        for places, many in ((1, 3), (2, 6), (3, 20)):
            self.assertEqual(sum(grows(table) for table in tables_of(places)), many)
        between = itertools.product((0, 1), repeat=14)
        self.assertEqual(sum(grows((0,) + middle + (1,)) for middle in between), 166)

    def test_one_fall_in_each_place(self):
        for places in range(1, 6):
            for place in range(places):
                by_place = tuple(word[place] for word in words(places))
                self.assertIs(grows(by_place), True)
                self.assertIs(grows(tuple(1 - bit for bit in by_place)), False)
            all_but_the_last = (0,) + (1,) * (2 ** places - 2) + (0,)
            self.assertIs(grows(all_but_the_last), places == 1)


if __name__ == "__main__":
    unittest.main()
