import itertools
import random
import unittest

from tests.below import check_shown, check_untouched, pairs_plainly, rows_plainly
from tests.samples import ANYTHING, is_plain, many_boxes, parting_places, with_part_changed, words
from unlikeplace.cases import case_by
from unlikeplace.pairs import many_pairs, shown_by_pairs

RULES = ("any", "rising")
EXCLUSIVE = (((0, 1), (1, 0)), ((0, 0), (1, 1)))
ALL_FOUR = ("pairs", sorted(itertools.product(*EXCLUSIVE)))


def taken_plainly(rule, box):
    taken = []
    for pair in sorted(itertools.product(*box)):
        if pairs_plainly(rule, box, ("pairs", taken + [pair])) is not None:
            taken.append(pair)
    return ("pairs", taken)


class ShownByPairs(unittest.TestCase):
    def check(self, rule, box, thing):
        right = pairs_plainly(rule, box, thing)
        check_shown(self, shown_by_pairs(rule, box, thing), right, thing)
        return right

    def test_written_out(self):
        self.assertEqual(shown_by_pairs("any", EXCLUSIVE, ALL_FOUR), (4, 2))
        self.assertEqual(shown_by_pairs("any", EXCLUSIVE, ("pairs", ALL_FOUR[1][:1])), (1, 0))
        self.assertEqual(shown_by_pairs("any", EXCLUSIVE, ("pairs", ALL_FOUR[1][1:])), (3, 2))
        self.assertEqual(shown_by_pairs("any", EXCLUSIVE, ("pairs", ALL_FOUR[1][2:])), (2, 1))

    def test_two_in_one_square(self):
        box = (((0, 1), (1, 1)), ((0, 0), (1, 0)))
        for one, other in itertools.combinations(sorted(itertools.product(*box)), 2):
            # The place 1 parts all pairs of the box.
            self.assertIsNone(shown_by_pairs("any", box, ("pairs", [one, other])))
            self.assertIsNone(shown_by_pairs("rising", box, ("pairs", [one, other])))
            self.assertEqual(shown_by_pairs("any", box, ("pairs", [one])), (1, 0))

    def test_one_place_by_two_bits(self):
        low, high = ((0, 1), (1, 1)), ((1, 0), (0, 0))
        box = (((0, 1), (1, 0)), ((0, 0), (1, 1)))
        self.assertEqual(shown_by_pairs("any", box, ("pairs", [low, high])), (2, 1))

    def test_the_rules_differ(self):
        box = (((0, 0), (0, 1)), ((1, 0), (1, 1)))
        pairs = sorted(itertools.product(*box))
        self.assertIsNone(shown_by_pairs("any", box, ("pairs", pairs[:2])))
        self.assertEqual(shown_by_pairs("rising", box, ("pairs", pairs)), (4, 2))
        up = (box[1], box[0])
        self.assertIsNone(shown_by_pairs("rising", up, ("pairs", sorted(itertools.product(*up))[:2])))

    def test_wrong_lists(self):
        one, other = ALL_FOUR[1][:2]
        self.assertEqual(self.check("any", EXCLUSIVE, ("pairs", [one, other])), (2, 1))
        for wrong in ([], [other, one], [one, one], (one, other), {one: other}, {0: one}, None, [one, None], [None],
                      [list(one)], [one[::-1]], [one + one[:1]], [one[:1]], [(list(one[0]), one[1])], "",
                      [(one[0], list(one[1]))], [((False, 1), one[1])], [((0, True), one[1])],
                      [(one[0], (False, False))], [((1, 1), (0, 0))], [((0, 1), (0, 1))], [((0, 1), (1, 0))],
                      [((0, 1, 0), (0, 0, 0))], [((0,), (1,))], [one, other, other]):
            self.assertIsNone(shown_by_pairs("any", EXCLUSIVE, ("pairs", wrong)), wrong)
            self.assertIsNone(self.check("rising", EXCLUSIVE, ("pairs", wrong)), wrong)

    def test_other_kinds(self):
        for wrong in (("one",), ("pairs",), ("pairs", ALL_FOUR[1], 1), ["pairs", ALL_FOUR[1]], ("Pairs", ALL_FOUR[1]),
                      ("sums", 1, [pair + (1,) for pair in ALL_FOUR[1]]), ("edges",) + EXCLUSIVE, ALL_FOUR[1],
                      ("sums", ALL_FOUR[1]), (("pairs",), ALL_FOUR[1]), {"pairs": ALL_FOUR[1]}, (ALL_FOUR,)):
            for rule in RULES:
                self.assertIsNone(shown_by_pairs(rule, EXCLUSIVE, wrong), wrong)

    def test_of_anything(self):
        for thing in ANYTHING:
            for rule in RULES:
                for box in (EXCLUSIVE, (((1,),), ((0,),)), (((0, 1, 1),), ((1, 0, 0), (1, 1, 1)))):
                    self.assertIsNone(self.check(rule, box, thing))

    def test_anything_in_the_place_of_each_part(self):
        single = ("pairs", [((1,), (0,))])
        for thing in ANYTHING:
            for rule in RULES:
                for changed in with_part_changed(ALL_FOUR, thing):
                    self.check(rule, EXCLUSIVE, changed)
                for changed in with_part_changed(single, thing):
                    self.check(rule, (((1,),), ((0,),)), changed)

    def test_all_lists_of_a_small_box(self):
        found = set()
        for box in (EXCLUSIVE, (((0, 0), (0, 1)), ((1, 0), (1, 1))), (((0, 1), (1, 1)), ((0, 0), (1, 0)))):
            pairs = sorted(itertools.product(*box))
            for size in range(4):
                for some in itertools.product(pairs, repeat=size):
                    for rule in RULES:
                        found.add(self.check(rule, box, ("pairs", list(some))))
        self.assertEqual(found, {None, (1, 0), (2, 1), (3, 2)})

    def test_many(self):
        chance = random.Random(5)
        held = {True: 0, False: 0}
        for box in many_boxes(100):
            pairs = sorted(itertools.product(*box))
            for size in (1, 2, 2, 3, 4, 6):
                some = sorted(chance.sample(pairs, min(size, len(pairs))))
                for rule in RULES:
                    held[self.check(rule, box, ("pairs", some)) is not None] += 1
        self.assertGreater(min(held.values()), 200)

    def test_untouched(self):
        for rule in RULES:
            check_untouched(self, shown_by_pairs, rule, EXCLUSIVE, ("pairs", list(ALL_FOUR[1])))

    def test_a_very_long_list(self):
        self.assertIsNone(shown_by_pairs("any", EXCLUSIVE, ("pairs", [ALL_FOUR[1][0]] * 8000)))
        whole = case_by(tuple(sum(word) % 2 for word in words(5)))[1:]
        self.assertIsNone(shown_by_pairs("any", whole, ("pairs", sorted(itertools.product(*whole)))))


class ManyPairs(unittest.TestCase):
    def test_written_out(self):
        self.assertEqual(many_pairs("any", EXCLUSIVE), ALL_FOUR)
        box = (((0, 1), (1, 1)), ((0, 0), (1, 0)))
        self.assertEqual(many_pairs("any", box), ("pairs", [((0, 1), (0, 0))]))
        self.assertEqual(many_pairs("any", (((1,),), ((0,),))), ("pairs", [((1,), (0,))]))
        either = (((0, 1), (1, 0), (1, 1)), ((0, 0),))
        self.assertEqual(many_pairs("rising", either), ("pairs", [((0, 1), (0, 0)), ((1, 0), (0, 0))]))
        # The first pair keeps out both that are in a square with it, though these two go together.
        first = (((1, 1, 0),), ((0, 0, 0), (0, 1, 0), (1, 0, 0)))
        self.assertEqual(many_pairs("any", first), ("pairs", [((1, 1, 0), (0, 0, 0))]))
        self.assertEqual(shown_by_pairs("any", first, ("pairs", [((1, 1, 0), (0, 1, 0)), ((1, 1, 0), (1, 0, 0))])),
                         (2, 1))

    def test_pairs_without_a_place_stand_beside_all(self):
        box = (((0, 0), (0, 1)), ((1, 0), (1, 1)))
        self.assertEqual(many_pairs("rising", box), ("pairs", sorted(itertools.product(*box))))
        self.assertEqual(many_pairs("rising", (((0,),), ((1,),))), ("pairs", [((0,), (1,))]))

    def test_many_and_that_they_hold(self):
        for box in many_boxes(200, 12):
            for rule in RULES:
                told = many_pairs(rule, box)
                self.assertIs(type(told), tuple)
                self.assertIs(type(told[1]), list)
                self.assertTrue(is_plain(told))
                self.assertEqual(told, taken_plainly(rule, box))
                shown = shown_by_pairs(rule, box, told)
                self.assertEqual(shown, pairs_plainly(rule, box, told))
                self.assertEqual(shown[0], len(told[1]))

    def test_whole_cases(self):
        for places in range(1, 6):
            box = case_by(tuple(sum(word) % 2 for word in words(places)))[1:]
            for rule in RULES:
                told = many_pairs(rule, box)
                self.assertEqual(shown_by_pairs(rule, box, told), pairs_plainly(rule, box, told))
                filled = [(place, yes[place]) for yes, no in told[1] for place in parting_places(rule, yes, no)]
                self.assertEqual(len(filled), len(set(filled)))

    def test_no_more_than_the_least(self):
        for box in many_boxes(300, 7):
            for rule in RULES:
                if rule == "any" or all(parting_places(rule, *pair) for pair in itertools.product(*box)):
                    shown = shown_by_pairs(rule, box, many_pairs(rule, box))
                    self.assertLessEqual(shown[0], dict(rows_plainly(box, rule, "leaves"))[box])
                    self.assertLessEqual(shown[1], dict(rows_plainly(box, rule, "depth"))[box])

    def test_a_new_list_each_time(self):
        told = many_pairs("any", EXCLUSIVE)
        told[1].reverse()
        told[1].pop()
        self.assertEqual(many_pairs("any", EXCLUSIVE), ALL_FOUR)


if __name__ == "__main__":
    unittest.main()
