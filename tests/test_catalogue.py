import itertools
import time
import unittest

from tests.below import least_sayings, strictly
from tests.samples import is_plain, looks_like_saying, some_sayings, value_plainly, words
from unlikeplace.cases import case_by
from unlikeplace.catalogue import catalogue
from unlikeplace.floors import floors_of, steps_of
from unlikeplace.sayings import deep, leaves, table_by, without_not
from unlikeplace.tables import grows

RULES = ("any", "rising")
BOTH = ("leaves", "depth")
COUNTED = {"leaves": leaves, "depth": deep}
ASKED = list(itertools.product((1, 2, 3), RULES, BOTH))


def counted_plainly(by, saying):
    if saying[0] == "is":
        return {"leaves": 1, "depth": 0}[by]
    numbers = [counted_plainly(by, part) for part in saying[1:]]
    return sum(numbers) if by == "leaves" else 1 + max(numbers)


def bits_in(saying):
    return {saying[2]} if saying[0] == "is" else bits_in(saying[1]) | bits_in(saying[2])


def grows_plainly(table):
    rows = list(zip(words(len(table).bit_length() - 1), table))
    return all(value <= other for word, value in rows for above, other in rows
               if all(bit <= more for bit, more in zip(word, above)))


class Catalogue(unittest.TestCase):
    def test_written_out(self):
        for by, number in (("leaves", 1), ("depth", 0)):
            self.assertEqual(catalogue(1, "any", by),
                             [((0, 1), number, ("is", 0, 1)), ((1, 0), number, ("is", 0, 0))])
            self.assertEqual(catalogue(1, "rising", by), [((0, 1), number, ("is", 0, 1))])
            told = catalogue(2, "rising", by)
            self.assertEqual([row[:2] for row in told], [((0, 0, 0, 1), number + 1), ((0, 0, 1, 1), number),
                                                         ((0, 1, 0, 1), number), ((0, 1, 1, 1), number + 1)])
            self.assertEqual(told[1][2], ("is", 0, 1))
            self.assertEqual(told[2][2], ("is", 1, 1))
            self.assertEqual((told[0][2][0], sorted(told[0][2][1:])), ("and", [("is", 0, 1), ("is", 1, 1)]))
            self.assertEqual((told[3][2][0], sorted(told[3][2][1:])), ("or", [("is", 0, 1), ("is", 1, 1)]))

    def test_numbers_written_out(self):
        by_leaves = {table: number for table, number, saying in catalogue(2, "any", "leaves")}
        self.assertEqual([by_leaves[table] for table in sorted(by_leaves)], [2, 2, 1, 2, 1, 4, 2, 2, 4, 1, 2, 1, 2, 2])
        by_depth = {table: number for table, number, saying in catalogue(2, "any", "depth")}
        self.assertEqual([by_depth[table] for table in sorted(by_depth)], [1, 1, 0, 1, 0, 2, 1, 1, 2, 0, 1, 0, 1, 1])
        odd = tuple(sum(word) % 2 for word in words(3))
        least_two = tuple(int(sum(word) >= 2) for word in words(3))
        for rule in RULES:
            for by, number in (("leaves", 5), ("depth", 3)):
                self.assertEqual({row[0]: row[1] for row in catalogue(3, rule, by)}[least_two], number)
        for by, number in (("leaves", 10), ("depth", 4)):
            numbers = {row[0]: row[1] for row in catalogue(3, "any", by)}
            self.assertEqual(numbers[odd], number)
            self.assertEqual(max(numbers.values()), number)

    def test_which_tables_in_which_order(self):
        many = {(1, "any"): 2, (2, "any"): 14, (3, "any"): 254, (1, "rising"): 1, (2, "rising"): 4, (3, "rising"): 18}
        for places, rule, by in ASKED:
            told = catalogue(places, rule, by)
            self.assertIs(type(told), list)
            self.assertEqual(len(told), many[places, rule])
            right = [table for table in words(2 ** places) if len(set(table)) == 2]
            if rule == "rising":
                right = [table for table in right if grows_plainly(table)]
            self.assertEqual([row[0] for row in told], right)
            self.assertTrue(all(grows(row[0]) for row in told) or rule == "any")

    def test_each_saying_has_the_table_and_the_number(self):
        for places, rule, by in ASKED:
            for row in catalogue(places, rule, by):
                self.assertIs(type(row), tuple)
                table, number, saying = row
                self.assertTrue(is_plain(row))
                self.assertTrue(looks_like_saying(places, saying))
                self.assertEqual(tuple(value_plainly(saying, word) for word in words(places)), table)
                self.assertEqual(table_by(places, saying), table)
                self.assertTrue(strictly(number, counted_plainly(by, saying)))
                self.assertEqual(COUNTED[by](saying), number)
                if rule == "rising":
                    self.assertEqual(bits_in(saying), {1})
                    self.assertIs(without_not(saying), True)

    def test_the_number_is_the_least(self):
        for places, rule, by in ASKED:
            right = {table: number for table, number in least_sayings(places, rule, by).items() if len(set(table)) == 2}
            self.assertEqual({row[0]: row[1] for row in catalogue(places, rule, by)}, right)

    def test_the_number_is_the_least_of_talks(self):
        # Of cases of all words of the table, reckoned by parting boxes.
        for places, rule, by in ASKED:
            rows = catalogue(places, rule, by)
            for table, number, saying in rows if len(rows) < 20 else rows[::9]:
                case = case_by(table)
                told = {"leaves": floors_of, "depth": steps_of}[by](case, rule)
                self.assertEqual(dict(told)[case[1:]], number)

    def test_no_saying_has_less(self):
        for places, by in itertools.product((1, 2, 3), BOTH):
            for rule, bits in (("any", (0, 1)), ("rising", (1,))):
                numbers = {row[0]: row[1] for row in catalogue(places, rule, by)}
                for saying in some_sayings(places, 400, 400 + places, bits):
                    table = tuple(value_plainly(saying, word) for word in words(places))
                    if len(set(table)) == 2:
                        self.assertGreaterEqual(counted_plainly(by, saying), numbers[table])

    def test_told_in_good_time(self):
        started = time.monotonic()
        for places, rule, by in ASKED:
            catalogue(places, rule, by)
        self.assertLess(time.monotonic() - started, 20)

    def test_a_new_list_each_time(self):
        for places, rule, by in ASKED:
            kept = catalogue(places, rule, by)
            told = catalogue(places, rule, by)
            before = list(kept)
            told.reverse()
            told.pop()
            self.assertEqual(kept, before)
            self.assertEqual(catalogue(places, rule, by), before)


if __name__ == "__main__":
    unittest.main()
