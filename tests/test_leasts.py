import itertools
import random
import time
import unittest

from tests.below import all_parted, least_by_sayings, least_sayings, rows_plainly, strictly
from tests.samples import (a_let_by_talk, all_small_cases, as_case, is_plain, looks_like_talk, parting_places,
                           some_boxes, some_rising_boxes, words)
from unlikeplace.errors import NoRise, TooMany
from unlikeplace.floors import floors_hold, floors_of, steps_hold, steps_of
from unlikeplace.leads import saying_of
from unlikeplace.leasts import least
from unlikeplace.papers import shown
from unlikeplace.sayings import deep, leaves, parts, without_not
from unlikeplace.talks import lets_by, spoken, talk_deep, talk_leaves

RULES = ("any", "rising")
BOTH = ("leaves", "depth")
COUNTED = {"leaves": talk_leaves, "depth": talk_deep}
EXCLUSIVE = (2, ((0, 1), (1, 0)), ((0, 0), (1, 1)))
UP, DOWN = (1, ((1,),), ((0,),)), (1, ((0,),), ((1,),))
ODD = (3,) + tuple(tuple(word for word in words(3) if sum(word) % 2 == bit) for bit in (1, 0))
LEAST_TWO = (3,) + tuple(tuple(word for word in words(3) if (sum(word) >= 2) == bit) for bit in (True, False))


def counted_plainly(by, talk):
    if talk[0] == "end":
        return {"leaves": 1, "depth": 0}[by]
    numbers = [counted_plainly(by, part) for part in talk[2:]]
    return sum(numbers) if by == "leaves" else 1 + max(numbers)


def let_by_plainly(case, rule, talk):
    return all(spoken(talk, yes, no)[1] in parting_places(rule, yes, no)
               for yes, no in itertools.product(case[1], case[2]))


class Least(unittest.TestCase):
    def check(self, case, rule, by):
        told = least(case, rule, by)
        self.assertIs(type(told), tuple)
        number, talk = told
        self.assertTrue(is_plain(told))
        self.assertTrue(strictly(number, dict(rows_plainly(case[1:], rule, by))[case[1:]]))
        self.assertTrue(looks_like_talk(case[0], talk), talk)
        self.assertTrue(let_by_plainly(case, rule, talk))
        self.assertIs(lets_by(case, rule, talk), True)
        self.assertEqual(counted_plainly(by, talk), number)
        self.assertEqual(COUNTED[by](talk), number)
        return number

    def test_written_out(self):
        for rule in RULES:
            self.assertEqual(least(UP, rule, "leaves"), (1, ("end", 0)))
            self.assertEqual(least(UP, rule, "depth"), (0, ("end", 0)))
        self.assertEqual(least(DOWN, "any", "leaves"), (1, ("end", 0)))
        self.assertEqual(least(EXCLUSIVE, "any", "leaves")[0], 4)
        self.assertEqual(least(EXCLUSIVE, "any", "depth")[0], 2)
        either = (2, ((0, 1), (1, 0), (1, 1)), ((0, 0),))
        for rule, by in itertools.product(RULES, BOTH):
            self.assertEqual(self.check(either, rule, by), {"leaves": 2, "depth": 1}[by])
        # One yes word and one no word that differ at the places 1 and 2.
        number, talk = least((3, ((1, 1, 0),), ((1, 0, 1),)), "any", "leaves")
        self.assertIn((number, talk), ((1, ("end", 1)), (1, ("end", 2))))
        self.assertEqual(least((3, ((1, 1, 0),), ((1, 0, 1),)), "rising", "depth"), (0, ("end", 1)))

    def test_eight_words(self):
        self.assertEqual(self.check(ODD, "any", "leaves"), 10)
        self.assertEqual(self.check(ODD, "any", "depth"), 4)
        for rule in RULES:
            self.assertEqual(self.check(LEAST_TWO, rule, "leaves"), 5)
            self.assertEqual(self.check(LEAST_TWO, rule, "depth"), 3)
        for middle in range(1, 8):
            case = (3, tuple(words(3)[middle:]), tuple(words(3)[:middle]))
            for by in BOTH:
                self.check(case, "any", by)
        for places in (3, 4, 5):
            for box in some_boxes(places, 60, 300 + places, 8):
                if len(box[0]) + len(box[1]) == 8:
                    for by in BOTH:
                        self.check(as_case(box), "any", by)
            for box in some_rising_boxes(places, 60, 310 + places, 8):
                if len(box[0]) + len(box[1]) == 8:
                    for rule, by in itertools.product(RULES, BOTH):
                        self.check(as_case(box), rule, by)

    def test_told_in_good_time(self):
        chance = random.Random(3)
        started = time.monotonic()
        for middle in range(1, 8):
            some = chance.sample(words(5), 8)
            case = (5, tuple(sorted(some[:middle])), tuple(sorted(some[middle:])))
            for by in BOTH:
                least(case, "any", by)
        self.assertLess(time.monotonic() - started, 20)

    def test_many(self):
        for places in range(1, 6):
            for by in BOTH:
                for box in some_boxes(places, 25, 320 + places, 7):
                    self.check(as_case(box), "any", by)
                for box in some_rising_boxes(places, 25, 330 + places, 7):
                    one, other = [self.check(as_case(box), rule, by) for rule in RULES]
                    self.assertLessEqual(one, other)

    def test_all_cases_of_two_places(self):
        for case in all_small_cases(1) + all_small_cases(2):
            for rule, by in itertools.product(RULES, BOTH):
                if all_parted(rule, case[1:]):
                    self.check(case, rule, by)
                else:
                    self.assertRaises(NoRise, least, case, rule, by)

    def test_by_rising_may_need_more(self):
        # The place 2 parts all pairs, but with 0 in the yes words.
        case = (4, ((0, 1, 0, 0), (1, 0, 0, 0)), ((0, 0, 1, 1),))
        for by in BOTH:
            self.assertEqual(self.check(case, "any", by), {"leaves": 1, "depth": 0}[by])
            self.assertEqual(self.check(case, "rising", by), {"leaves": 2, "depth": 1}[by])

    def test_no_talk_has_less(self):
        chance = random.Random(5)
        for places in range(1, 6):
            boxes = [("any", box) for box in some_boxes(places, 15, 340 + places, 8)]
            boxes += [("rising", box) for box in some_rising_boxes(places, 15, 350 + places, 8)]
            for rule, box in boxes:
                numbers = {by: least(as_case(box), rule, by)[0] for by in BOTH}
                for _ in range(8):
                    talk = a_let_by_talk(rule, box, chance)
                    for by in BOTH:
                        self.assertGreaterEqual(COUNTED[by](talk), numbers[by])

    def test_the_least_of_sayings(self):
        for places in (1, 2, 3):
            boxes = some_boxes(places, 15, 360 + places, 8) + some_rising_boxes(places, 15, 370 + places, 8)
            boxes += [ODD[1:], LEAST_TWO[1:]] if places == 3 else []
            for rule, by in itertools.product(RULES, BOTH):
                catalogue = least_sayings(places, rule, by)
                for box in boxes:
                    if all_parted(rule, box):
                        number, talk = least(as_case(box), rule, by)
                        self.assertEqual(number, least_by_sayings(box, rule, by, catalogue))
                        saying = saying_of(as_case(box), talk)
                        self.assertIs(parts(as_case(box), saying), True)
                        self.assertEqual({"leaves": leaves, "depth": deep}[by](saying), number)
                        self.assertTrue(rule == "any" or without_not(saying))

    def test_with_floors_that_hold_and_show_it(self):
        for rule, case in (("any", ODD), ("any", LEAST_TWO), ("rising", LEAST_TWO), ("any", EXCLUSIVE), ("rising", UP)):
            floors, steps = floors_of(case, rule), steps_of(case, rule)
            self.assertIs(floors_hold(case, rule, floors), True)
            self.assertIs(steps_hold(case, rule, steps), True)
            self.assertEqual(shown(rule, case[1:], ("floors", floors))[0], least(case, rule, "leaves")[0])
            self.assertEqual(shown(rule, case[1:], ("steps", steps))[1], least(case, rule, "depth")[0])

    def refused(self, kind, case, rule):
        for by in BOTH:
            with self.assertRaises(kind) as caught:
                least(case, rule, by)
            self.assertIs(type(caught.exception), kind)

    def test_too_many(self):
        for places in (4, 5):
            for size in (9, 10, 2 ** places):
                some = words(places)[:size]
                for middle in {1, size // 2, size - 1}:
                    for rule in RULES:
                        self.refused(TooMany, (places, tuple(some[middle:]), tuple(some[:middle])), rule)
        # With a common place, too.
        self.refused(TooMany, (4, tuple(words(4)[8:]), tuple(words(4)[:1])), "any")

    def test_no_rise_behind_too_many(self):
        some = words(4)
        nine, eight = (4, tuple(some[:4]), tuple(some[4:9])), (4, tuple(some[:4]), tuple(some[4:8]))
        self.assertFalse(all_parted("rising", nine[1:]))
        self.refused(TooMany, nine, "rising")
        self.refused(TooMany, nine, "any")
        self.refused(NoRise, eight, "rising")
        for by in BOTH:
            self.check(eight, "any", by)

    def test_no_rise(self):
        for case in (DOWN, EXCLUSIVE, ODD, (2, ((0, 1),), ((0, 1)[::-1], (1, 1)))):
            self.refused(NoRise, case, "rising")

    def test_the_same_again(self):
        cases = [ODD, LEAST_TWO, EXCLUSIVE, UP]
        kept = [least(case, "any", by) for case in cases for by in BOTH]
        floors = floors_of(ODD, "any")
        floors.clear()
        self.assertEqual([least(case, "any", by) for case in cases for by in BOTH], kept)


if __name__ == "__main__":
    unittest.main()
