import itertools
import random
import unittest

from tests.below import strictly
from tests.samples import (a_let_by_talk, all_small_cases, as_case, is_plain, looks_like_talk, some_boxes, some_cases,
                           some_rising_boxes, some_talks, words)
from unlikeplace.cases import case_of
from unlikeplace.errors import NoCase
from unlikeplace.fixed import fixed_case, fixed_talk
from unlikeplace.leads import talk_of
from unlikeplace.leasts import least
from unlikeplace.plain import joined
from unlikeplace.squares import case_grows
from unlikeplace.talks import lets_by, spoken, talk_deep, talk_leaves

CASE = (3, ((0, 0, 1), (0, 1, 1), (1, 1, 0)), ((0, 1, 0), (1, 0, 1)))


def without(word, place):
    return tuple(bit for at, bit in enumerate(word) if at != place)


def with_bit(word, place, bit):
    told = list(word)
    told.insert(place, bit)
    return tuple(told)


def fixings(places):
    return itertools.product(range(places), (0, 1))


def kept(side, place, bit):
    return [without(word, place) for word in side if word[place] == bit]


class FixedCase(unittest.TestCase):
    def refused(self, case, place, bit):
        with self.assertRaises(NoCase) as caught:
            fixed_case(case, place, bit)
        self.assertIs(type(caught.exception), NoCase)

    def test_written_out(self):
        self.assertEqual(fixed_case(CASE, 0, 0), (2, ((0, 1), (1, 1)), ((1, 0),)))
        self.assertEqual(fixed_case(CASE, 0, 1), (2, ((1, 0),), ((0, 1),)))
        self.assertEqual(fixed_case(CASE, 1, 1), (2, ((0, 1), (1, 0)), ((0, 0),)))
        self.assertEqual(fixed_case(CASE, 1, 0), (2, ((0, 1),), ((1, 1),)))
        self.assertEqual(fixed_case(CASE, 2, 0), (2, ((1, 1),), ((0, 1),)))
        self.assertEqual(fixed_case((2, ((0, 1), (1, 0)), ((0, 0), (1, 1))), 0, 1), (1, ((0,),), ((1,),)))

    def test_one_place_alone(self):
        for case in all_small_cases(1):
            for place, bit in fixings(1):
                self.refused(case, place, bit)

    def test_none_left(self):
        either = (2, ((0, 1), (1, 0), (1, 1)), ((0, 0),))
        for place in (0, 1):
            # No no words are left, and turned about no yes words.
            self.refused(either, place, 1)
            self.refused((2, either[2], either[1]), place, 1)
            self.assertEqual(fixed_case(either, place, 0), (1, ((1,),), ((0,),)))
        self.refused((2, ((0, 1),), ((0, 0),)), 0, 1)
        self.refused((2, ((1, 0),), ((0, 0),)), 0, 0)
        self.refused((2, ((1, 0),), ((0, 0),)), 0, 1)

    def test_many(self):
        told_and_refused = {True: 0, False: 0}
        for places in range(2, 6):
            cases = all_small_cases(2) if places == 2 else some_cases(places, 40, 800 + places)
            cases += [as_case(box) for box in some_boxes(places, 40, 810 + places, 6)]
            for case, (place, bit) in itertools.product(cases, fixings(places)):
                yes, no = kept(case[1], place, bit), kept(case[2], place, bit)
                told_and_refused[bool(yes and no)] += 1
                if yes and no:
                    self.assertTrue(strictly(fixed_case(case, place, bit), case_of(places - 1, yes, no)))
                else:
                    self.refused(case, place, bit)
        self.assertGreater(min(told_and_refused.values()), 100)


class FixedTalk(unittest.TestCase):
    def test_written_out(self):
        talk = ("yes", ((0, 0, 1), (0, 1, 0), (1, 0, 1)), ("end", 0), ("no", ((1, 1, 1),), ("end", 1), ("end", 2)))
        self.assertEqual(fixed_talk(talk, 0, 0),
                         ("yes", ((0, 1), (1, 0)), ("end", 0), ("no", (), ("end", 0), ("end", 1))))
        self.assertEqual(fixed_talk(talk, 0, 1),
                         ("yes", ((0, 1),), ("end", 0), ("no", ((1, 1),), ("end", 0), ("end", 1))))
        self.assertEqual(fixed_talk(talk, 1, 0),
                         ("yes", ((0, 1), (1, 1)), ("end", 0), ("no", (), ("end", 0), ("end", 1))))
        self.assertEqual(fixed_talk(talk, 2, 1),
                         ("yes", ((0, 0), (1, 0)), ("end", 0), ("no", ((1, 1),), ("end", 1), ("end", 0))))

    def test_ends(self):
        for places in range(2, 6):
            for old, (place, bit) in itertools.product(range(places), fixings(places)):
                right = {True: old - 1, False: old}[old > place] if old != place else 0
                self.assertTrue(strictly(fixed_talk(("end", old), place, bit), ("end", right)))

    def test_many(self):
        for places in range(2, 6):
            for talk, (place, bit) in itertools.product(some_talks(places, 25, 820 + places), fixings(places)):
                told = fixed_talk(talk, place, bit)
                self.assertTrue(looks_like_talk(places - 1, told) and is_plain(told))
                self.assertEqual((talk_deep(told), talk_leaves(told)), (talk_deep(talk), talk_leaves(talk)))
                for yes, no in itertools.product(words(places - 1)[::2], words(places - 1)[::3]):
                    bits, end = spoken(talk, with_bit(yes, place, bit), with_bit(no, place, bit))
                    right = 0 if end == place else end - (end > place)
                    self.assertEqual(spoken(told, yes, no), (bits, right))


class Carried(unittest.TestCase):
    def test_let_by(self):
        chance = random.Random(1)
        many = {"any": 0, "rising": 0}
        for places in range(2, 6):
            boxes = [("any", box) for box in some_boxes(places, 15, 830 + places)]
            boxes += [("rising", box) for box in some_rising_boxes(places, 15, 840 + places)]
            for (rule, box), (place, bit) in itertools.product(boxes, fixings(places)):
                talk = a_let_by_talk(rule, box, chance)
                if kept(box[0], place, bit) and kept(box[1], place, bit):
                    many[rule] += 1
                    case = fixed_case(as_case(box), place, bit)
                    self.assertIs(lets_by(case, rule, fixed_talk(talk, place, bit)), True)
                    self.assertTrue(rule == "any" or case_grows(case))
        self.assertGreater(min(many.values()), 200)

    def test_the_least_never_grows(self):
        for places in (2, 3, 4):
            boxes = [("any", box) for box in some_boxes(places, 10, 850 + places, 7)]
            boxes += [("rising", box) for box in some_rising_boxes(places, 10, 860 + places, 7)]
            for (rule, box), (place, bit) in itertools.product(boxes, fixings(places)):
                if kept(box[0], place, bit) and kept(box[1], place, bit):
                    for by in ("leaves", "depth"):
                        self.assertLessEqual(least(fixed_case(as_case(box), place, bit), rule, by)[0],
                                             least(as_case(box), rule, by)[0])

    def test_very_deep(self):
        case = (2, ((0, 1), (1, 1)), ((0, 0), (1, 0)))
        saying = ("is", 1, 1)
        for number in range(2000):
            saying = joined("and" if number % 2 else "or", [saying, ("is", 1, 1)])
        told = fixed_talk(talk_of(case, saying), 0, 1)
        self.assertEqual(talk_deep(told), 2000)
        self.assertIs(lets_by((1, ((1,),), ((0,),)), "rising", told), True)


if __name__ == "__main__":
    unittest.main()
