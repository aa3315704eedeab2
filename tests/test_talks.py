import itertools
import unittest

from tests.samples import (ANYTHING, all_small_cases, check_told, is_plain, led, looks_like_talk, some_cases,
                           some_talks, with_part_changed, words)
from unlikeplace.plain import by_no, by_yes
from unlikeplace.talks import fault, is_talk, lets_by, spoken, talk_deep, talk_leaves

WRITTEN = ("yes", ((0, 1), (1, 1)), ("end", 0), ("no", (), ("end", 1), ("end", 0)))


def spoken_plainly(talk, yes, no):
    if talk[0] == "end":
        return ([], talk[1])
    own = {"yes": yes, "no": no}[talk[0]]
    bit = int(own in talk[1])
    bits, place = spoken_plainly(talk[3] if bit else talk[2], yes, no)
    return ([bit] + bits, place)


def shape_plainly(talk):
    """(depth, leaves)."""
    if talk[0] == "end":
        return (0, 1)
    first, second = shape_plainly(talk[2]), shape_plainly(talk[3])
    return (1 + max(first[0], second[0]), first[1] + second[1])


def fault_plainly(case, rule, talk):
    for yes, no in itertools.product(case[1], case[2]):
        place = spoken_plainly(talk, yes, no)[1]
        good = (yes[place], no[place]) in ({(1, 0)} if rule == "rising" else {(0, 1), (1, 0)})
        if not good:
            return (yes, no, place)
    return None


class IsTalk(unittest.TestCase):
    def check(self, places, thing):
        check_told(self, thing, is_talk(places, thing), looks_like_talk(places, thing))

    def test_talks(self):
        for places in range(1, 6):
            for talk in some_talks(places, 60, places):
                self.assertIs(is_talk(places, talk), True)
                for others in range(1, 6):
                    self.check(others, talk)
        self.assertIs(is_talk(2, WRITTEN), True)

    def test_each_end(self):
        for places in range(1, 6):
            for place in range(-2, 8):
                self.assertIs(is_talk(places, ("end", place)), 0 <= place < places)
        self.assertIs(is_talk(2, ("end", False)), False)
        self.assertIs(is_talk(2, ("end", True)), False)

    def test_says(self):
        end = ("end", 0)
        for says in itertools.chain(itertools.product(words(2), repeat=2), itertools.product(words(2), repeat=3),
                                    [(word,) for word in words(2)], [()]):
            rising = all(one < other for one, other in zip(says, says[1:]))
            for hand in ("yes", "no"):
                self.assertIs(is_talk(2, (hand, says, end, end)), rising)
                self.assertIs(is_talk(2, (hand, list(says), end, end)), False)
        for says in ([], None, {}, "", "-", (0, 1), ((0,),), ((0, 0, 0),), ((0, 2),), ((0, True),), ([0, 1],), ("01",)):
            self.assertIs(is_talk(2, ("no", says, end, end)), False, says)
            self.assertIs(is_talk(2, ("yes", (), end, ("no", says, end, end))), False, says)

    def test_of_anything(self):
        for thing in ANYTHING:
            for places in range(1, 6):
                self.check(places, thing)

    def test_anything_in_the_place_of_each_part(self):
        for talk in (("end", 1), ("no", ((1, 0),), ("end", 0), ("end", 1)), WRITTEN):
            for thing in ANYTHING:
                for changed in with_part_changed(talk, thing):
                    self.check(2, changed)

    def test_other_lengths_and_words(self):
        end = ("end", 0)
        for wrong in ((), ("end",), ("end", 0, 0), ("end", (), end, end), ("yes",), ("yes", ()), ("yes", (), end),
                      ("yes", (), end, end, end), ("is", 0, 1), ("Yes", (), end, end), ("", (), end, end), ("yes", 0),
                      ("any", (), end, end), ["end", 0], ["yes", (), end, end], ("yes", (), ["end", 0], end),
                      (("yes",), (), end, end), ("and", end, end)):
            self.assertIs(is_talk(1, wrong), False, wrong)
            self.assertIs(is_talk(1, ("no", (), end, wrong)), False, wrong)
            self.assertIs(is_talk(1, ("no", (), wrong, end)), False, wrong)

    def test_any_depth(self):
        for at in (0, 1):
            good, bad = ("end", 1), ("end", 2)
            for _ in range(100000):
                good, bad = [("yes", (), side, ("end", 0)) if at == 0 else ("no", ((0, 1),), ("end", 0), side)
                             for side in (good, bad)]
            self.assertIs(is_talk(2, good), True)
            self.assertIs(is_talk(2, bad), False)

    def test_any_size(self):
        good, bad = ("end", 0), ("end", 1)
        for _ in range(15):
            good, bad = ("yes", ((0,), (1,)), good, good), ("no", ((1,),), good, bad)
        self.assertIs(is_talk(1, good), True)
        self.assertIs(is_talk(1, bad), False)

    def test_there_are_one_to_five_places(self):
        self.assertIs(is_talk(0, ("end", 0)), False)
        self.assertIs(is_talk(6, ("end", 0)), False)


class Spoken(unittest.TestCase):
    def test_written_out(self):
        self.assertEqual(spoken(("end", 3), (0,) * 4, (1,) * 4), ([], 3))
        self.assertEqual(spoken(WRITTEN, (0, 0), (0, 1)), ([0], 0))
        self.assertEqual(spoken(WRITTEN, (0, 1), (0, 0)), ([1, 0], 1))
        by_no_hand = ("no", ((0,),), ("end", 0), ("yes", ((1,),), ("end", 0), ("end", 0)))
        self.assertEqual(spoken(by_no_hand, (1,), (0,)), ([1, 1], 0))
        self.assertEqual(spoken(by_no_hand, (0,), (1,)), ([0], 0))

    def test_any_two_words_alike_ones_too(self):
        for places in range(1, 6):
            for talk in some_talks(places, 24, 10 + places):
                for yes, no in itertools.product(words(places), repeat=2):
                    told = spoken(talk, yes, no)
                    self.assertEqual(told, spoken_plainly(talk, yes, no))
                self.assertIs(type(told), tuple)
                self.assertIs(type(told[0]), list)
                self.assertTrue(is_plain(told))

    def test_a_new_list_each_time(self):
        told = spoken(WRITTEN, (0, 1), (0, 0))
        told[0].append(7)
        told[0].reverse()
        self.assertEqual(spoken(WRITTEN, (0, 1), (0, 0)), ([1, 0], 1))
        end = spoken(("end", 0), (0,), (1,))
        end[0].append(1)
        self.assertEqual(spoken(("end", 0), (0,), (1,)), ([], 0))


class Shape(unittest.TestCase):
    def test_written_out(self):
        self.assertEqual((talk_deep(("end", 4)), talk_leaves(("end", 4))), (0, 1))
        self.assertEqual((talk_deep(WRITTEN), talk_leaves(WRITTEN)), (2, 3))
        turned = ("no", (), WRITTEN, ("end", 0))
        self.assertEqual((talk_deep(turned), talk_leaves(turned)), (3, 4))

    def test_many(self):
        for places in range(1, 6):
            for talk in some_talks(places, 60, 20 + places):
                self.assertEqual((talk_deep(talk), talk_leaves(talk)), shape_plainly(talk))

    def test_very_deep(self):
        talk = ("end", 0)
        for _ in range(5000):
            talk = ("yes", ((1,),), ("end", 0), talk)
        self.assertEqual((talk_deep(talk), talk_leaves(talk)), (5000, 5001))
        self.assertEqual(spoken(talk, (1,), (0,)), ([1] * 5000, 0))


class LetsBy(unittest.TestCase):
    def check(self, case, rule, talk):
        right = fault_plainly(case, rule, talk)
        told = fault(case, rule, talk)
        self.assertEqual(told, right)
        self.assertTrue(is_plain(told))
        self.assertIs(lets_by(case, rule, talk), right is None)
        return right is None

    def test_written_out(self):
        case = (2, ((0, 1), (1, 0)), ((0, 0), (1, 1)))
        self.assertEqual(fault(case, "any", ("end", 0)), ((0, 1), (0, 0), 0))
        self.assertEqual(fault(case, "any", ("end", 1)), ((0, 1), (1, 1), 1))
        talk = ("no", ((1, 1),), ("yes", ((0, 1),), ("end", 0), ("end", 1)), ("yes", ((0, 1),), ("end", 1), ("end", 0)))
        self.assertIsNone(fault(case, "any", talk))
        self.assertIs(lets_by(case, "any", talk), True)
        self.assertEqual(fault(case, "rising", talk), ((0, 1), (1, 1), 0))
        self.assertIs(lets_by(case, "rising", talk), False)

    def test_one_place(self):
        up, down = (1, ((1,),), ((0,),)), (1, ((0,),), ((1,),))
        self.assertIsNone(fault(up, "rising", ("end", 0)))
        self.assertIsNone(fault(up, "any", ("end", 0)))
        self.assertIsNone(fault(down, "any", ("end", 0)))
        self.assertEqual(fault(down, "rising", ("end", 0)), ((0,), (1,), 0))

    def test_all_talks_of_one_turn_for_all_cases_of_two_places(self):
        many = {True: 0, False: 0}
        ends = [("end", 0), ("end", 1)]
        some = [says for size in range(5) for says in itertools.combinations(words(2), size)]
        for hand, says, first, second in itertools.product(("yes", "no"), some, ends, ends):
            for case in all_small_cases(2):
                for rule in ("any", "rising"):
                    many[self.check(case, rule, (hand, says, first, second))] += 1
        self.assertGreater(min(many.values()), 100)

    def test_talks_that_are_let_by_and_others(self):
        for places in range(1, 6):
            for case in some_cases(places, 12, 5 + places):
                for saying in (by_yes(case), by_no(case)):
                    talk = led(case, saying)
                    self.assertTrue(self.check(case, "any", talk))
                    self.check(case, "rising", talk)
                for talk in some_talks(places, 12, 30 + places):
                    self.check(case, "any", talk)
                    self.check(case, "rising", talk)

    def test_let_by_by_rising(self):
        least_two = tuple(word for word in words(3) if sum(word) >= 2)
        others = tuple(word for word in words(3) if sum(word) < 2)
        case = (3, least_two, others)
        saying = ("or", ("and", ("is", 0, 1), ("is", 1, 1)),
                  ("and", ("is", 2, 1), ("or", ("is", 0, 1), ("is", 1, 1))))
        self.assertTrue(self.check(case, "rising", led(case, saying)))
        self.assertTrue(self.check(case, "any", led(case, saying)))


if __name__ == "__main__":
    unittest.main()
