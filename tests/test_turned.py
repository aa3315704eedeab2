import itertools
import random
import unittest

from tests.below import strictly
from tests.samples import (a_let_by_talk, all_small_cases, as_case, is_plain, looks_like_saying, looks_like_talk,
                           some_boxes, some_cases, some_rising_boxes, some_sayings, some_talks, value_plainly, words)
from unlikeplace.cases import case_of
from unlikeplace.leads import saying_of, talk_of
from unlikeplace.leasts import least
from unlikeplace.plain import by_no, by_yes, joined
from unlikeplace.sayings import against, deep, leaves, parts
from unlikeplace.talks import lets_by, spoken, talk_deep, talk_leaves
from unlikeplace.turned import (exchanged_case, exchanged_saying, exchanged_talk, flipped_case, flipped_saying,
                                flipped_talk, swapped_case, swapped_talk)

RULES = ("any", "rising")
CASE = (2, ((0, 1), (1, 0)), ((0, 0),))


def flipped(word, some):
    return tuple(bit ^ (place in some) for place, bit in enumerate(word))


def exchanged(word, order):
    return tuple(word[order.index(place)] for place in range(len(word)))


def some_of(places):
    """All tuples of places, rising."""
    return [some for size in range(places + 1) for some in itertools.combinations(range(places), size)]


def orders(places, many=12):
    """Orders of so many places, all where there are few."""
    every = list(itertools.permutations(range(places)))
    return every if len(every) <= many else random.Random(places).sample(every, many - 1) + [every[-1]]


def back(order):
    return tuple(order.index(place) for place in range(len(order)))


def cases(places, seed):
    return all_small_cases(places) if places < 3 else some_cases(places, 20, seed + places)


class Flipped(unittest.TestCase):
    def test_written_out(self):
        self.assertEqual(flipped_case(CASE, ()), CASE)
        self.assertEqual(flipped_case(CASE, (0,)), (2, ((0, 0), (1, 1)), ((1, 0),)))
        self.assertEqual(flipped_case(CASE, (1,)), (2, ((0, 0), (1, 1)), ((0, 1),)))
        self.assertEqual(flipped_case(CASE, (0, 1)), (2, ((0, 1), (1, 0)), ((1, 1),)))
        saying = ("or", ("is", 0, 1), ("and", ("is", 1, 0), ("is", 0, 0)))
        self.assertEqual(flipped_saying(saying, ()), saying)
        self.assertEqual(flipped_saying(saying, (0,)), ("or", ("is", 0, 0), ("and", ("is", 1, 0), ("is", 0, 1))))
        self.assertEqual(flipped_saying(saying, (1,)), ("or", ("is", 0, 1), ("and", ("is", 1, 1), ("is", 0, 0))))
        talk = ("yes", ((0, 1), (1, 0)), ("end", 0), ("no", (), ("end", 1), ("end", 0)))
        self.assertEqual(flipped_talk(talk, ()), talk)
        self.assertEqual(flipped_talk(talk, (0,)),
                         ("yes", ((0, 0), (1, 1)), ("end", 0), ("no", (), ("end", 1), ("end", 0))))
        self.assertEqual(flipped_talk(("end", 1), (0, 1)), ("end", 1))

    def test_cases(self):
        for places in range(1, 6):
            for case, some in itertools.product(cases(places, 500), some_of(places)):
                told = flipped_case(case, some)
                right = case_of(places, [flipped(word, some) for word in case[1]],
                                [flipped(word, some) for word in case[2]])
                self.assertTrue(strictly(told, right))
                self.assertEqual(flipped_case(told, some), case)

    def test_sayings(self):
        for places in range(1, 6):
            for saying, some in itertools.product(some_sayings(places, 15, 510 + places), some_of(places)):
                told = flipped_saying(saying, some)
                self.assertTrue(looks_like_saying(places, told) and is_plain(told))
                for word in words(places):
                    self.assertEqual(value_plainly(told, flipped(word, some)), value_plainly(saying, word))
                self.assertEqual((deep(told), leaves(told)), (deep(saying), leaves(saying)))
                self.assertEqual(flipped_saying(told, some), saying)
                rest = tuple(place for place in range(places) if place not in some)
                self.assertEqual(flipped_saying(told, rest), flipped_saying(saying, tuple(range(places))))

    def test_talks(self):
        for places in range(1, 6):
            for talk, some in itertools.product(some_talks(places, 12, 520 + places), some_of(places)):
                told = flipped_talk(talk, some)
                self.assertTrue(looks_like_talk(places, told) and is_plain(told))
                for yes, no in itertools.product(words(places)[::3], words(places)[::2]):
                    self.assertEqual(spoken(told, flipped(yes, some), flipped(no, some)), spoken(talk, yes, no))
                self.assertEqual((talk_deep(told), talk_leaves(told)), (talk_deep(talk), talk_leaves(talk)))
                self.assertEqual(flipped_talk(told, some), talk)

    def test_carried_along(self):
        chance = random.Random(1)
        for places in range(1, 6):
            for box in some_boxes(places, 4, 530 + places):
                case = as_case(box)
                talk = a_let_by_talk("any", box, chance)
                for some in some_of(places):
                    other = flipped_case(case, some)
                    self.assertIs(lets_by(other, "any", flipped_talk(talk, some)), True)
                    for saying in (by_yes(case), by_no(case), saying_of(case, talk)):
                        self.assertIs(parts(other, flipped_saying(saying, some)), True)
                    self.assertEqual(saying_of(other, flipped_talk(talk, some)),
                                     flipped_saying(saying_of(case, talk), some))

    def test_carried_along_just_where_it_was_so(self):
        found = {True: 0, False: 0}
        for places in (1, 2, 3):
            for case, some in itertools.product(cases(places, 540), some_of(places)):
                other = flipped_case(case, some)
                for saying, talk in zip(some_sayings(places, 6, 541), some_talks(places, 6, 542)):
                    self.assertIs(parts(other, flipped_saying(saying, some)), parts(case, saying))
                    found[lets_by(case, "any", talk)] += 1
                    self.assertIs(lets_by(other, "any", flipped_talk(talk, some)), lets_by(case, "any", talk))
        self.assertGreater(min(found.values()), 50)

    def test_the_least_stays(self):
        for places in (2, 3, 4):
            for box in some_boxes(places, 4, 550 + places, 6):
                for some, by in itertools.product(some_of(places), ("leaves", "depth")):
                    self.assertEqual(least(flipped_case(as_case(box), some), "any", by)[0],
                                     least(as_case(box), "any", by)[0])


class Exchanged(unittest.TestCase):
    def test_written_out(self):
        case = (3, ((0, 0, 1), (1, 1, 0)), ((0, 1, 1),))
        self.assertEqual(exchanged_case(case, (0, 1, 2)), case)
        # What stood at the place 0 stands at 1, that at 1 at 2, that at 2 at 0.
        self.assertEqual(exchanged_case(case, (1, 2, 0)), (3, ((0, 1, 1), (1, 0, 0)), ((1, 0, 1),)))
        self.assertEqual(exchanged_case(case, (2, 0, 1)), (3, ((0, 1, 0), (1, 0, 1)), ((1, 1, 0),)))
        self.assertEqual(exchanged_case((2, ((0, 1), (1, 1)), ((0, 0),)), (1, 0)), (2, ((1, 0), (1, 1)), ((0, 0),)))
        saying = ("and", ("is", 0, 1), ("or", ("is", 1, 0), ("is", 2, 1)))
        self.assertEqual(exchanged_saying(saying, (1, 2, 0)), ("and", ("is", 1, 1), ("or", ("is", 2, 0), ("is", 0, 1))))
        talk = ("no", ((0, 0, 1), (0, 1, 0)), ("end", 0), ("yes", ((1, 0, 0),), ("end", 2), ("end", 1)))
        self.assertEqual(exchanged_talk(talk, (1, 2, 0)),
                         ("no", ((0, 0, 1), (1, 0, 0)), ("end", 1), ("yes", ((0, 1, 0),), ("end", 0), ("end", 2))))

    def test_cases(self):
        for places in range(1, 6):
            for case, order in itertools.product(cases(places, 600), orders(places)):
                told = exchanged_case(case, order)
                right = case_of(places, [exchanged(word, order) for word in case[1]],
                                [exchanged(word, order) for word in case[2]])
                self.assertTrue(strictly(told, right))
                self.assertEqual(exchanged_case(told, back(order)), case)

    def test_sayings(self):
        for places in range(1, 6):
            for saying, order in itertools.product(some_sayings(places, 15, 610 + places), orders(places)):
                told = exchanged_saying(saying, order)
                self.assertTrue(looks_like_saying(places, told) and is_plain(told))
                for word in words(places):
                    self.assertEqual(value_plainly(told, exchanged(word, order)), value_plainly(saying, word))
                self.assertEqual((deep(told), leaves(told)), (deep(saying), leaves(saying)))
                self.assertEqual(exchanged_saying(told, back(order)), saying)

    def test_talks(self):
        for places in range(1, 6):
            for talk, order in itertools.product(some_talks(places, 12, 620 + places), orders(places)):
                told = exchanged_talk(talk, order)
                self.assertTrue(looks_like_talk(places, told) and is_plain(told))
                for yes, no in itertools.product(words(places)[::3], words(places)[::2]):
                    bits, place = spoken(talk, yes, no)
                    self.assertEqual(spoken(told, exchanged(yes, order), exchanged(no, order)), (bits, order[place]))
                self.assertEqual((talk_deep(told), talk_leaves(told)), (talk_deep(talk), talk_leaves(talk)))
                self.assertEqual(exchanged_talk(told, back(order)), talk)

    def test_carried_along(self):
        chance = random.Random(2)
        for places in range(1, 6):
            boxes = [("any", box) for box in some_boxes(places, 8, 630 + places)]
            boxes += [("rising", box) for box in some_rising_boxes(places, 8, 640 + places)]
            for (rule, box), order in itertools.product(boxes, orders(places)):
                case, other = as_case(box), exchanged_case(as_case(box), order)
                talk = a_let_by_talk(rule, box, chance)
                self.assertIs(lets_by(other, rule, exchanged_talk(talk, order)), True)
                for saying in (by_yes(case), by_no(case), saying_of(case, talk)):
                    self.assertIs(parts(other, exchanged_saying(saying, order)), True)

    def test_carried_along_just_where_it_was_so(self):
        found = {True: 0, False: 0}
        for places in (2, 3):
            for case, order in itertools.product(cases(places, 650), orders(places)):
                other = exchanged_case(case, order)
                for saying, talk in zip(some_sayings(places, 6, 651), some_talks(places, 6, 652)):
                    self.assertIs(parts(other, exchanged_saying(saying, order)), parts(case, saying))
                    for rule in RULES:
                        found[lets_by(case, rule, talk)] += 1
                        self.assertIs(lets_by(other, rule, exchanged_talk(talk, order)), lets_by(case, rule, talk))
        self.assertGreater(min(found.values()), 50)

    def test_the_least_stays(self):
        for places in (2, 3, 4):
            boxes = [("any", box) for box in some_boxes(places, 3, 660 + places, 6)]
            boxes += [("rising", box) for box in some_rising_boxes(places, 3, 670 + places, 6)]
            for (rule, box), order, by in itertools.product(boxes, orders(places, 6), ("leaves", "depth")):
                self.assertEqual(least(exchanged_case(as_case(box), order), rule, by)[0],
                                 least(as_case(box), rule, by)[0])


class Swapped(unittest.TestCase):
    def test_written_out(self):
        self.assertEqual(swapped_case(CASE), (2, ((0, 0),), ((0, 1), (1, 0))))
        talk = ("yes", ((0, 1), (1, 0)), ("end", 0), ("no", (), ("end", 1), ("end", 0)))
        self.assertEqual(swapped_talk(talk),
                         ("no", ((0, 1), (1, 0)), ("end", 0), ("yes", (), ("end", 1), ("end", 0))))
        self.assertEqual(swapped_talk(("end", 3)), ("end", 3))

    def test_there_and_back(self):
        for places in range(1, 6):
            for case in cases(places, 700):
                told = swapped_case(case)
                self.assertTrue(strictly(told, (places, case[2], case[1])))
                self.assertEqual(swapped_case(told), case)
            for talk in some_talks(places, 40, 710 + places):
                told = swapped_talk(talk)
                self.assertTrue(looks_like_talk(places, told) and is_plain(told))
                for yes, no in itertools.product(words(places)[::3], words(places)[::2]):
                    self.assertEqual(spoken(told, yes, no), spoken(talk, no, yes))
                self.assertEqual(swapped_talk(told), talk)

    def test_carried_along(self):
        chance = random.Random(3)
        for places in range(1, 6):
            for box in some_boxes(places, 25, 720 + places):
                case, talk = as_case(box), a_let_by_talk("any", box, chance)
                other = swapped_case(case)
                self.assertIs(lets_by(other, "any", swapped_talk(talk)), True)
                for saying in (by_yes(case), by_no(case), saying_of(case, talk)):
                    self.assertIs(parts(other, against(saying)), True)
                    self.assertEqual(talk_of(other, against(saying)), swapped_talk(talk_of(case, saying)))
                self.assertEqual(saying_of(other, swapped_talk(talk)), against(saying_of(case, talk)))

    def test_carried_along_just_where_it_was_so(self):
        found = {True: 0, False: 0}
        for places in (1, 2, 3):
            for case in cases(places, 730):
                for talk in some_talks(places, 12, 731):
                    found[lets_by(case, "any", talk)] += 1
                    self.assertIs(lets_by(swapped_case(case), "any", swapped_talk(talk)), lets_by(case, "any", talk))
        self.assertGreater(min(found.values()), 50)

    def test_with_all_places_flipped_it_rises_again(self):
        chance = random.Random(4)
        for places in range(1, 6):
            every = tuple(range(places))
            for box in some_rising_boxes(places, 20, 740 + places):
                case, talk = as_case(box), a_let_by_talk("rising", box, chance)
                other = flipped_case(swapped_case(case), every)
                self.assertIs(lets_by(other, "rising", flipped_talk(swapped_talk(talk), every)), True)

    def test_the_least_stays(self):
        for places in (2, 3, 4):
            for box in some_boxes(places, 8, 750 + places, 7):
                for by in ("leaves", "depth"):
                    self.assertEqual(least(swapped_case(as_case(box)), "any", by)[0], least(as_case(box), "any", by)[0])


class AnyDepth(unittest.TestCase):
    def test_what_was_told_may_be_very_deep(self):
        case = (2, ((0, 1), (1, 1)), ((0, 0), (1, 0)))
        saying = ("is", 1, 1)
        for number in range(2000):
            saying = joined("and" if number % 2 else "or", [saying, ("is", 1, 1)])
        talk = talk_of(case, saying)
        for turned, other in ((flipped_saying(saying, (1,)), flipped_case(case, (1,))),
                              (exchanged_saying(saying, (1, 0)), exchanged_case(case, (1, 0))),
                              (against(saying), swapped_case(case))):
            self.assertEqual((deep(turned), leaves(turned)), (2000, 2001))
            self.assertIs(parts(other, turned), True)
        for turned, other in ((flipped_talk(talk, (1,)), flipped_case(case, (1,))),
                              (exchanged_talk(talk, (1, 0)), exchanged_case(case, (1, 0))),
                              (swapped_talk(talk), swapped_case(case))):
            self.assertEqual((talk_deep(turned), talk_leaves(turned)), (2000, 2001))
            self.assertIs(lets_by(other, "any", turned), True)


if __name__ == "__main__":
    unittest.main()
