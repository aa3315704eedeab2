import copy
import itertools
import random
import unittest

from tests.below import (all_parted, boxes_plainly, check_shown, hold_plainly, least_by_sayings, least_sayings,
                         partings_plainly, rows_plainly, strictly)
from tests.samples import (ANYTHING, a_let_by_talk, all_small_cases, as_case, check_told, common_plainly, is_plain,
                           some_boxes, some_rising_boxes, with_part_changed, words)
from unlikeplace.errors import NoRise, TooMany
from unlikeplace.floors import floors_hold, floors_of, steps_hold, steps_of
from unlikeplace.talks import talk_deep, talk_leaves

RULES = ("any", "rising")
EXCLUSIVE = (((0, 1), (1, 0)), ((0, 0), (1, 1)))
UP, DOWN = (((1,),), ((0,),)), (((0,),), ((1,),))
EITHER = (((0, 1), (1, 0), (1, 1)), ((0, 0),))
ODD = tuple(tuple(word for word in words(3) if sum(word) % 2 == bit) for bit in (1, 0))
LEAST_TWO = tuple(tuple(word for word in words(3) if (sum(word) >= 2) == bit) for bit in (True, False))
# By "leaves" and by "depth".
TOLD_BY = {"leaves": floors_of, "depth": steps_of}
HOLD_BY = {"leaves": floors_hold, "depth": steps_hold}
BOTH = tuple(TOLD_BY)


def grown_boxes(seed, many=15):
    """(rule, box) with boxes of at most eight words that grow by the rule."""
    for places in range(1, 6):
        for box in some_boxes(places, many, seed + places, 8):
            yield "any", box
        for box in some_rising_boxes(places, many, seed + 10 + places, 8):
            yield "rising", box
            yield "any", box


def zeros(box):
    return [(each, 0) for each in boxes_plainly(box)]


class Told(unittest.TestCase):
    def test_written_out(self):
        one, other, zero, both = (0, 1), (1, 0), (0, 0), (1, 1)
        case = (2, (one, other), (zero, both))
        self.assertEqual(floors_of(case, "any"), [
            (((one,), (zero,)), 1), (((one,), (zero, both)), 2), (((one,), (both,)), 1),
            (((one, other), (zero,)), 2), (((one, other), (zero, both)), 4), (((one, other), (both,)), 2),
            (((other,), (zero,)), 1), (((other,), (zero, both)), 2), (((other,), (both,)), 1)])
        self.assertEqual([number for box, number in steps_of(case, "any")], [0, 1, 0, 1, 2, 1, 0, 1, 0])
        self.assertEqual(floors_of((1,) + UP, "rising"), [(UP, 1)])
        self.assertEqual(steps_of((1,) + UP, "rising"), [(UP, 0)])

    def test_eight_words(self):
        self.assertEqual(dict(floors_of(as_case(ODD), "any"))[ODD], 10)
        self.assertEqual(dict(steps_of(as_case(ODD), "any"))[ODD], 4)
        for rule in RULES:
            self.assertEqual(dict(floors_of(as_case(LEAST_TWO), rule))[LEAST_TWO], 5)
            self.assertEqual(dict(steps_of(as_case(LEAST_TWO), rule))[LEAST_TWO], 3)
        for middle in range(1, 8):
            box = (tuple(words(3)[middle:]), tuple(words(3)[:middle]))
            for by in BOTH:
                self.assertEqual(TOLD_BY[by](as_case(box), "any"), rows_plainly(box, "any", by))
        ones = tuple(tuple(int(at == place) for at in range(5)) for place in range(4, -1, -1))
        box = (ones, ((0,) * 5,))
        for rule in RULES:
            self.assertEqual(dict(floors_of(as_case(box), rule))[box], 5)
            self.assertEqual(dict(steps_of(as_case(box), rule))[box], 3)

    def test_many(self):
        for rule, box in grown_boxes(1):
            for by in BOTH:
                told = TOLD_BY[by](as_case(box), rule)
                self.assertIs(type(told), list)
                self.assertTrue(strictly(told, rows_plainly(box, rule, by)))
                self.assertEqual([row[0] for row in told], boxes_plainly(box))
                self.assertTrue(is_plain(told))

    def test_all_cases_of_two_places(self):
        for case in all_small_cases(1) + all_small_cases(2):
            for rule in RULES:
                for by in BOTH:
                    if all_parted(rule, case[1:]):
                        self.assertEqual(TOLD_BY[by](case, rule), rows_plainly(case[1:], rule, by))
                    else:
                        self.assertRaises(NoRise, TOLD_BY[by], case, rule)

    def test_the_least_of_sayings(self):
        for places in (1, 2, 3):
            boxes = some_boxes(places, 12, 40 + places, 8) + some_rising_boxes(places, 12, 50 + places, 8)
            boxes += [ODD, LEAST_TWO] if places == 3 else []
            for rule, by in itertools.product(RULES, BOTH):
                catalogue = least_sayings(places, rule, by)
                for box in boxes:
                    if all_parted(rule, box):
                        told = TOLD_BY[by](as_case(box), rule)
                        for each, number in told[::7] + [(box, dict(told)[box])]:
                            self.assertEqual(number, least_by_sayings(each, rule, by, catalogue))

    def test_no_talk_has_less(self):
        chance = random.Random(4)
        for rule, box in grown_boxes(60):
            leaves, depth = dict(floors_of(as_case(box), rule))[box], dict(steps_of(as_case(box), rule))[box]
            for _ in range(8):
                talk = a_let_by_talk(rule, box, chance)
                self.assertGreaterEqual(talk_leaves(talk), leaves)
                self.assertGreaterEqual(talk_deep(talk), depth)

    def test_too_many(self):
        for places in (4, 5):
            for size in range(9, 2 ** places + 1):
                some = words(places)[:size]
                for middle in {1, size // 2, size - 1}:
                    case = (places, tuple(some[middle:]), tuple(some[:middle]))
                    for rule, by in itertools.product(RULES, BOTH):
                        with self.assertRaises(TooMany) as caught:
                            TOLD_BY[by](case, rule)
                        self.assertIs(type(caught.exception), TooMany)

    def test_too_many_ahead_of_no_rise(self):
        some = words(4)
        case = (4, tuple(some[:4]), tuple(some[4:9]))
        self.assertFalse(all_parted("rising", case[1:]))
        eight = (4, tuple(some[:4]), tuple(some[4:8]))
        for by in BOTH:
            self.assertRaises(TooMany, TOLD_BY[by], case, "rising")
            with self.assertRaises(NoRise) as caught:
                TOLD_BY[by](eight, "rising")
            self.assertIs(type(caught.exception), NoRise)
            self.assertEqual(TOLD_BY[by](eight, "any"), rows_plainly(eight[1:], "any", by))

    def test_no_rise(self):
        for by in BOTH:
            self.assertRaises(NoRise, TOLD_BY[by], (1,) + DOWN, "rising")
            self.assertRaises(NoRise, TOLD_BY[by], as_case(EXCLUSIVE), "rising")
            self.assertRaises(NoRise, TOLD_BY[by], as_case(ODD), "rising")

    def test_a_new_list_each_time(self):
        for by in BOTH:
            kept = TOLD_BY[by](as_case(EXCLUSIVE), "any")
            told = TOLD_BY[by](as_case(EXCLUSIVE), "any")
            told.reverse()
            told.pop()
            self.assertEqual(TOLD_BY[by](as_case(EXCLUSIVE), "any"), kept)
            self.assertEqual(len(kept), 9)


class Hold(unittest.TestCase):
    def check(self, rule, by, box, thing):
        right = hold_plainly(box, rule, by, thing)
        check_told(self, thing, HOLD_BY[by](as_case(box), rule, thing), right)
        return right

    def with_number(self, rows, box, number):
        return [(each, number if each == box else old) for each, old in rows]

    def test_what_is_told_holds(self):
        for rule, box in itertools.chain(grown_boxes(2), [("any", ODD), ("any", LEAST_TWO), ("rising", LEAST_TWO)]):
            case = as_case(box)
            self.assertIs(floors_hold(case, rule, floors_of(case, rule)), True)
            self.assertIs(steps_hold(case, rule, steps_of(case, rule)), True)

    def test_one_number_more_or_less(self):
        held = {True: 0, False: 0}
        for rule, box in itertools.chain(grown_boxes(3, 4), [("any", EXCLUSIVE), ("rising", EITHER)]):
            for by in BOTH:
                rows = TOLD_BY[by](as_case(box), rule)
                for each, number in rows[::max(1, len(rows) // 5)] + [(box, dict(rows)[box])]:
                    more = self.with_number(rows, each, number + 1)
                    self.assertIs(self.check(rule, by, box, more), False)
                    for less in (1, 10 ** 29):
                        held[self.check(rule, by, box, self.with_number(rows, each, number - less))] += 1
        self.assertGreater(min(held.values()), 50)

    def test_lower_ones(self):
        for rule, box in grown_boxes(4, 5):
            for number in (1, 0, -1):
                rows = [(each, number) for each in boxes_plainly(box)]
                self.assertIs(self.check(rule, "leaves", box, rows), number >= 0 or bool(common_plainly(rule, box)))
                self.assertIs(self.check(rule, "depth", box, rows), number <= 0)

    def test_below_zero(self):
        box = (((0, 1), (1, 0)), ((0, 0),))
        pairs = [((word,), box[1]) for word in box[0]]
        for ones, whole in itertools.product(itertools.product((-3, -1, 0, 1, 2), repeat=2), range(-8, 5)):
            rows = [(pairs[0], ones[0]), (box, whole), (pairs[1], ones[1])]
            self.assertEqual([row[0] for row in rows], boxes_plainly(box))
            self.assertIs(floors_hold(as_case(box), "any", rows), max(ones) <= 1 and whole <= sum(ones))
            self.assertIs(steps_hold(as_case(box), "any", rows), max(ones) <= 0 and whole <= 1 + max(ones))

    def test_each_parting_counts(self):
        for box in (EITHER, EXCLUSIVE):
            for by in BOTH:
                rows = TOLD_BY[by](as_case(box), "any")
                whole = dict(rows)[box]
                self.assertFalse(common_plainly("any", box))
                for hand, first, second in partings_plainly(box):
                    for part in (first, second):
                        for lower in range(1, 4):
                            changed = self.with_number(rows, part, dict(rows)[part] - lower)
                            self.check("any", by, box, changed)
                            self.check("any", by, box, self.with_number(changed, box, whole - lower))

    def test_random_numbers(self):
        chance = random.Random(11)
        held = {True: 0, False: 0}
        boxes = [EXCLUSIVE, EITHER, UP, DOWN, (((0, 1), (1, 0)), ((0, 0),)), (((0, 0), (1, 1)), ((0, 1),)),
                 (((0, 1, 1),), ((0, 0, 0), (1, 1, 1))), (((0, 0), (0, 1)), ((1, 0), (1, 1)))]
        for box, rule, by in itertools.product(boxes, RULES, BOTH):
            for _ in range(150):
                rows = [(each, chance.choice((0, 0, 1, 1, 1, 2, -1))) for each in boxes_plainly(box)]
                held[self.check(rule, by, box, rows)] += 1
        self.assertGreater(min(held.values()), 200)

    def test_by_rising_where_the_case_does_not_grow(self):
        # A pair without a common place has no partings: any number may stand there.
        for number in (0, 1, 2, -5, 10 ** 29, -(10 ** 29)):
            self.assertIs(floors_hold((1,) + DOWN, "rising", [(DOWN, number)]), True)
            self.assertIs(steps_hold((1,) + DOWN, "rising", [(DOWN, number)]), True)
            self.assertIs(floors_hold((1,) + UP, "rising", [(UP, number)]), number <= 1)
            self.assertIs(steps_hold((1,) + UP, "rising", [(UP, number)]), number <= 0)
            self.assertIs(floors_hold((1,) + DOWN, "any", [(DOWN, number)]), number <= 1)
            self.assertIs(steps_hold((1,) + DOWN, "any", [(DOWN, number)]), number <= 0)
        box = (((0, 1), (1, 0)), ((1, 1),))
        pairs = [((word,), box[1]) for word in box[0]]
        for one, other, whole in itertools.product((0, 1, 7, 100), repeat=3):
            rows = [(pairs[0], one), (box, whole), (pairs[1], other)]
            self.assertIs(floors_hold(as_case(box), "rising", rows), whole <= one + other)
            self.assertIs(steps_hold(as_case(box), "rising", rows), whole <= 1 + max(one, other))
        held = {True: 0, False: 0}
        chance = random.Random(12)
        for places in (2, 3, 4):
            for box in some_boxes(places, 20, 70 + places, 5):
                if not all_parted("rising", box):
                    for by in BOTH:
                        rows = [(each, chance.randint(*((-1, 1) if common_plainly("rising", each) else (0, 2))))
                                for each in boxes_plainly(box)]
                        held[self.check("rising", by, box, rows)] += 1
                        held[self.check("rising", by, box, zeros(box))] += 1
        self.assertGreater(min(held.values()), 10)

    def test_boxes_that_are_not_just_those(self):
        for by in BOTH:
            rows = TOLD_BY[by](as_case(EXCLUSIVE), "any")
            self.assertIs(HOLD_BY[by](as_case(EXCLUSIVE), "any", list(rows)), True)
            other = TOLD_BY[by](as_case(EITHER), "any")
            for wrong in ([], rows[:-1], rows[1:], rows[::-1], rows + rows[-1:], rows[:1] + rows, rows[:4] + rows[5:],
                          [rows[1], rows[0]] + rows[2:], other, rows + other, sorted(rows + other), rows * 2,
                          [(box[::-1], number) for box, number in rows], tuple(rows), dict(rows), None, "",
                          [list(row) for row in rows], [row + (1,) for row in rows], [row[:1] for row in rows],
                          [row[0] for row in rows], [(row[1], row[0]) for row in rows],
                          [(list(box), number) for box, number in rows],
                          [((list(box[0]), box[1]), number) for box, number in rows]):
                self.assertIs(HOLD_BY[by](as_case(EXCLUSIVE), "any", wrong), False)
                self.check("rising", by, EXCLUSIVE, wrong)

    def test_truths_are_no_whole_numbers(self):
        good = [(UP, 0)]
        for by in BOTH:
            for rule in RULES:
                self.assertIs(HOLD_BY[by]((1,) + UP, rule, good), True)
                for wrong in ([(UP, True)], [(UP, False)], [((((True,),), ((0,),)), 0)], [((((1,),), ((False,),)), 0)],
                              [(UP, None)], [(UP, "0")], [(UP, (0,))], [(UP, [0])]):
                    self.assertIs(HOLD_BY[by]((1,) + UP, rule, wrong), False, wrong)

    def test_of_anything(self):
        for thing in ANYTHING:
            for rule, by, box in itertools.product(RULES, BOTH, (EXCLUSIVE, UP, DOWN, ODD)):
                self.assertIs(self.check(rule, by, box, thing), False)

    def test_anything_in_the_place_of_each_part(self):
        box = (((0, 1), (1, 0)), ((0, 0),))
        for thing in ANYTHING:
            for rule, by in itertools.product(RULES, BOTH):
                for changed in with_part_changed([(UP, 0)], thing):
                    self.check(rule, by, UP, changed)
                for changed in with_part_changed([(DOWN, 0)], thing):
                    self.check(rule, by, DOWN, changed)
                for changed in with_part_changed(TOLD_BY[by](as_case(box), rule), thing):
                    self.check(rule, by, box, changed)

    def test_more_than_eight_words(self):
        some = words(4)
        for middle in (1, 4, 8):
            nine = (tuple(some[middle:9]), tuple(some[:middle])) if middle < 8 else (tuple(some[:8]), (some[8],))
            eight = (nine[0][:-1], nine[1])
            for rule, by in itertools.product(RULES, BOTH):
                for rows in ([], zeros(nine), zeros(eight)):
                    self.assertIs(HOLD_BY[by](as_case(nine), rule, rows), False)
                self.assertIs(self.check(rule, by, eight, zeros(eight)), True)
        whole = (5, tuple(words(5)[:16]), tuple(words(5)[16:]))
        for thing in ([], None, [(whole[1:], 0)]):
            self.assertIs(floors_hold(whole, "any", thing), False)
            self.assertIs(steps_hold(whole, "rising", thing), False)

    def test_eight_words(self):
        for by in BOTH:
            rows = TOLD_BY[by](as_case(ODD), "any")
            self.assertIs(self.check("any", by, ODD, rows), True)
            self.assertIs(self.check("any", by, ODD, self.with_number(rows, ODD, dict(rows)[ODD] + 1)), False)
            self.assertIs(self.check("any", by, ODD, self.with_number(rows, ODD, dict(rows)[ODD] - 1)), True)
            self.check("rising", by, ODD, rows)

    def test_no_number_that_holds_is_greater_than_the_least(self):
        chance = random.Random(13)
        for rule, box in grown_boxes(5, 6):
            for by in BOTH:
                least = dict(rows_plainly(box, rule, by))
                for _ in range(10):
                    rows = [(each, number + chance.choice((0,) * 30 + (-1, 1))) for each, number in least.items()]
                    if HOLD_BY[by](as_case(box), rule, rows):
                        self.assertTrue(all(number <= least[each] for each, number in rows))

    def test_untouched(self):
        for by in BOTH:
            rows = TOLD_BY[by](as_case(EXCLUSIVE), "any")
            before = copy.deepcopy(rows)
            self.assertIs(HOLD_BY[by](as_case(EXCLUSIVE), "any", rows), True)
            check_shown(self, rows, before, rows)
            rows.reverse()
            self.assertIs(HOLD_BY[by](as_case(EXCLUSIVE), "any", rows), False)
            self.assertIs(HOLD_BY[by](as_case(EXCLUSIVE), "any", before), True)


if __name__ == "__main__":
    unittest.main()
