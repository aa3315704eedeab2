import itertools
import unittest

from tests.below import all_parted, bits_by
from tests.samples import (all_small_cases, as_case, common_plainly, is_plain, parting_places, some_boxes, some_cases,
                           some_rising_boxes, words)
from unlikeplace.cases import case_by
from unlikeplace.squares import case_grows, common, squares
from unlikeplace.tables import grows

RULES = ("any", "rising")


def squares_plainly(case, rule):
    told = []
    for place, bit in itertools.product(range(case[0]), bits_by(rule)):
        yes = tuple(word for word in case[1] if word[place] == bit)
        no = tuple(word for word in case[2] if word[place] == 1 - bit)
        if yes and no:
            told.append((place, bit, (yes, no)))
    return told


def many_cases():
    for places in range(1, 6):
        yield from all_small_cases(places) if places < 3 else some_cases(places, 30, places)
        yield from [as_case(box) for box in some_boxes(places, 30, 10 + places, 6)]
        yield from [as_case(box) for box in some_rising_boxes(places, 30, 20 + places)]


class Common(unittest.TestCase):
    def test_one_pair(self):
        box = (((0, 1, 1),), ((1, 1, 0),))
        self.assertEqual(common("any", box), [0, 2])
        self.assertEqual(common("rising", box), [2])
        self.assertEqual(common("rising", (box[1], box[0])), [0])
        for places in range(1, 6):
            low, high = (0,) * places, (1,) * places
            self.assertEqual(common("any", ((low,), (high,))), list(range(places)))
            self.assertEqual(common("rising", ((low,), (high,))), [])
            self.assertEqual(common("rising", ((high,), (low,))), list(range(places)))

    def test_none(self):
        box = (((0, 1), (1, 0)), ((0, 0), (1, 1)))
        self.assertEqual(common("any", box), [])
        self.assertEqual(common("rising", box), [])
        self.assertEqual(common("any", (box[0], box[1][:1])), [])

    def test_all_pairs_count(self):
        yes, no = ((1, 0, 1), (1, 1, 1)), ((0, 0, 0), (0, 1, 1))
        self.assertEqual(common("any", (yes, no)), [0])
        self.assertEqual(common("rising", (yes, no)), [0])
        self.assertEqual(common("any", (yes, no[:1])), [0, 2])
        self.assertEqual(common("rising", (no[:1], yes)), [])
        self.assertEqual(common("any", (yes + ((0, 1, 0),), no)), [])

    def test_many(self):
        empty = {True: 0, False: 0}
        for case in many_cases():
            for rule in RULES:
                told = common(rule, case[1:])
                self.assertIs(type(told), list)
                self.assertEqual(told, common_plainly(rule, case[1:]))
                self.assertTrue(is_plain(told))
                empty[not told] += 1
        self.assertGreater(min(empty.values()), 100)

    def test_a_new_list_each_time(self):
        box = (((1, 1),), ((0, 0),))
        told = common("any", box)
        told.clear()
        self.assertEqual(common("any", box), [0, 1])


class Squares(unittest.TestCase):
    def test_written_out(self):
        case = (2, ((0, 1), (1, 0)), ((0, 0), (1, 1)))
        self.assertEqual(squares(case, "any"), [
            (0, 0, (((0, 1),), ((1, 1),))), (0, 1, (((1, 0),), ((0, 0),))),
            (1, 0, (((1, 0),), ((1, 1),))), (1, 1, (((0, 1),), ((0, 0),)))])
        self.assertEqual(squares(case, "rising"), [
            (0, 1, (((1, 0),), ((0, 0),))), (1, 1, (((0, 1),), ((0, 0),)))])

    def test_where_there_are_no_words_of_one_sort(self):
        # At the place 0 all yes words have 1, at the place 1 all no words have 1.
        case = (2, ((1, 0), (1, 1)), ((0, 1),))
        self.assertEqual(squares(case, "any"), [(0, 1, (case[1], case[2])), (1, 0, (((1, 0),), ((0, 1),)))])
        self.assertEqual(squares(case, "rising"), [(0, 1, (case[1], case[2]))])
        self.assertEqual(squares((1, ((0,),), ((1,),)), "any"), [(0, 0, (((0,),), ((1,),)))])
        self.assertEqual(squares((1, ((0,),), ((1,),)), "rising"), [])
        self.assertEqual(squares((2, ((1, 0),), ((1, 1),)), "any"), [(1, 0, (((1, 0),), ((1, 1),)))])

    def test_many(self):
        for case in many_cases():
            for rule in RULES:
                told = squares(case, rule)
                self.assertIs(type(told), list)
                self.assertEqual(told, squares_plainly(case, rule))
                self.assertTrue(is_plain(told))
                self.assertEqual([row[:2] for row in told], sorted({row[:2] for row in told}))
                for place, bit, box in told:
                    self.assertIn(place, common(rule, box))

    def test_a_pair_is_in_a_square_for_each_place_that_parts_it(self):
        for case in many_cases():
            for rule in RULES:
                told = squares(case, rule)
                for yes, no in itertools.product(case[1], case[2]):
                    own = [place for place, bit, box in told if yes in box[0] and no in box[1]]
                    self.assertEqual(own, parting_places(rule, yes, no))

    def test_a_new_list_each_time(self):
        case = (1, ((1,),), ((0,),))
        told = squares(case, "any")
        told.append(None)
        told.reverse()
        self.assertEqual(squares(case, "any"), [(0, 1, (((1,),), ((0,),)))])


class CaseGrows(unittest.TestCase):
    def test_written_out(self):
        self.assertIs(case_grows((1, ((1,),), ((0,),))), True)
        self.assertIs(case_grows((1, ((0,),), ((1,),))), False)
        self.assertIs(case_grows((2, ((0, 1), (1, 0)), ((0, 0), (1, 1)))), False)
        self.assertIs(case_grows((2, ((0, 1), (1, 0)), ((0, 0),))), True)
        self.assertIs(case_grows((2, ((0, 1),), ((1, 0),))), True)
        # The last pair alone has no such place.
        self.assertIs(case_grows((2, ((0, 1),), ((0, 0), (1, 1)))), False)
        self.assertIs(case_grows((2, ((1, 1),), ((0, 0), (0, 1), (1, 0)))), True)

    def test_of_tables_it_is_that_they_grow(self):
        for places in (1, 2, 3):
            for table in words(2 ** places):
                if sum(table) not in (0, len(table)):
                    self.assertIs(case_grows(case_by(table)), grows(table))

    def test_many(self):
        many = {True: 0, False: 0}
        for case in many_cases():
            right = all_parted("rising", case[1:])
            self.assertIs(case_grows(case), right)
            many[right] += 1
        self.assertGreater(min(many.values()), 50)


if __name__ == "__main__":
    unittest.main()
