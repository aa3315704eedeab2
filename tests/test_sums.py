import itertools
import random
import unittest

from tests.below import all_parted, check_shown, check_untouched, rows_plainly, sums_plainly
from tests.samples import ANYTHING, is_plain, many_boxes, with_part_changed, words
from unlikeplace.cases import case_by
from unlikeplace.sums import even_sums, shown_by_sums

RULES = ("any", "rising")
EXCLUSIVE = (((0, 1), (1, 0)), ((0, 0), (1, 1)))
ROWS = [pair + (1,) for pair in sorted(itertools.product(*EXCLUSIVE))]
UP, DOWN = (((1,),), ((0,),)), (((0,),), ((1,),))


def with_numbers(rows, numbers):
    return [row[:2] + (number,) for row, number in zip(rows, numbers)]


class ShownBySums(unittest.TestCase):
    def check(self, rule, box, thing):
        right = sums_plainly(rule, box, thing)
        check_shown(self, shown_by_sums(rule, box, thing), right, thing)
        return right

    def test_written_out(self):
        self.assertEqual(shown_by_sums("any", EXCLUSIVE, ("sums", 1, ROWS)), (4, 2))
        self.assertEqual(shown_by_sums("any", EXCLUSIVE, ("sums", 2, ROWS)), (2, 1))
        self.assertEqual(shown_by_sums("any", EXCLUSIVE, ("sums", 3, ROWS)), (2, 1))
        self.assertEqual(shown_by_sums("any", EXCLUSIVE, ("sums", 4, ROWS)), (1, 0))
        self.assertEqual(shown_by_sums("any", EXCLUSIVE, ("sums", 5, ROWS)), (1, 0))
        rows = with_numbers(ROWS, (3, 2, 1, 3))
        self.assertEqual(shown_by_sums("any", EXCLUSIVE, ("sums", 3, rows)), (3, 2))
        self.assertIsNone(shown_by_sums("any", EXCLUSIVE, ("sums", 2, rows)))

    def test_the_top_is_kept_or_not(self):
        box = (((0, 1), (1, 1)), ((0, 0), (1, 0)))
        rows = [pair + (number,) for pair, number in zip(sorted(itertools.product(*box)), (1, 20, 300, 4000))]
        for size in range(1, 5):
            for some in itertools.combinations(rows, size):
                # The place 1 parts all pairs of the box.
                together = sum(row[2] for row in some)
                for rule in RULES:
                    self.assertEqual(shown_by_sums(rule, box, ("sums", together, list(some))), (1, 0))
                    self.assertEqual(shown_by_sums(rule, box, ("sums", together + 1, list(some))), (1, 0))
                    if together > 1:
                        self.assertIsNone(shown_by_sums(rule, box, ("sums", together - 1, list(some))))

    def test_the_rules_differ(self):
        box = (EXCLUSIVE[1], EXCLUSIVE[0])
        rows = [pair + (number,) for pair, number in zip(sorted(itertools.product(*box)), (1, 1, 5, 5))]
        self.assertEqual(shown_by_sums("any", box, ("sums", 5, rows)), (3, 2))
        self.assertIsNone(shown_by_sums("any", box, ("sums", 4, rows)))
        low = [row[:2] + (9 if row[0] == (0, 0) else 1,) for row in rows]
        self.assertIsNone(shown_by_sums("any", box, ("sums", 1, low)))
        self.assertEqual(shown_by_sums("rising", box, ("sums", 1, low)), (20, 5))

    def test_thirty_figures(self):
        big = 10 ** 30 - 1
        rows = with_numbers(ROWS, (big, big - 1, big - 2, big))
        self.assertEqual(shown_by_sums("any", EXCLUSIVE, ("sums", big, rows)), (4, 2))
        self.assertIsNone(shown_by_sums("any", EXCLUSIVE, ("sums", big - 1, rows)))
        # Were these reckoned with points, one more or less would be lost.
        exact = with_numbers(ROWS, (big // 3, big // 3, big // 3, 1))
        self.assertEqual(shown_by_sums("any", EXCLUSIVE, ("sums", big // 3, exact)), (4, 2))
        self.assertEqual(shown_by_sums("any", EXCLUSIVE, ("sums", big // 3, exact[:3])), (3, 2))
        self.assertEqual(shown_by_sums("any", EXCLUSIVE, ("sums", big, exact[:3])), (1, 0))
        self.assertEqual(shown_by_sums("any", EXCLUSIVE, ("sums", big, exact)), (2, 1))
        self.assertEqual(shown_by_sums("rising", DOWN, ("sums", 1, [((0,), (1,), big)])), (big, 100))
        self.assertEqual(shown_by_sums("rising", DOWN, ("sums", 1, [((0,), (1,), 2 ** 99)])), (2 ** 99, 99))
        self.assertEqual(shown_by_sums("rising", DOWN, ("sums", 2, [((0,), (1,), big)])), (big // 2 + 1, 99))
        chance = random.Random(8)
        for _ in range(200):
            top = chance.randint(1, big)
            rows = with_numbers(ROWS, [chance.randint(1, big) for _ in range(4)])
            self.check("any", EXCLUSIVE, ("sums", top, rows))
            self.check("any", EXCLUSIVE, ("sums", max(row[2] for row in rows), rows))
            self.check("rising", EXCLUSIVE, ("sums", top, rows[1:]))

    def test_wrong_tops(self):
        for wrong in (0, -1, -(10 ** 29), True, False, None, "1", (), (1,), [], [1], {}):
            self.assertIsNone(shown_by_sums("any", UP, ("sums", wrong, [((1,), (0,), 1)])), wrong)
            self.assertIsNone(shown_by_sums("rising", DOWN, ("sums", wrong, [((0,), (1,), 1)])), wrong)
        self.assertEqual(shown_by_sums("any", UP, ("sums", 1, [((1,), (0,), 1)])), (1, 0))

    def test_wrong_numbers(self):
        for wrong in (0, -1, -(10 ** 29), True, False, None, "1", (), (1,), [], [1], {}):
            self.assertIsNone(shown_by_sums("any", UP, ("sums", 5, [((1,), (0,), wrong)])), wrong)
            self.assertIsNone(shown_by_sums("rising", DOWN, ("sums", 5, [((0,), (1,), wrong)])), wrong)
        self.assertEqual(shown_by_sums("any", UP, ("sums", 5, [((1,), (0,), 5)])), (1, 0))

    def test_wrong_lists(self):
        one, other = ROWS[:2]
        self.assertEqual(shown_by_sums("any", EXCLUSIVE, ("sums", 1, [one, other])), (2, 1))
        for wrong in ([], [other, one], [one, one], [one, one[:2] + (2,)], (one, other), {one: other}, {}, None, 5,
                      [one, None], [None], [list(one)], [one[:2]], [one + (1,)], [one[:2] + ((1,),)], [(one[:2], 1)],
                      [(one[1], one[0], 1)], [(list(one[0]), one[1], 1)], [(one[0], list(one[1]), 1)],
                      [((False, 1), one[1], 1)], [((0, True), one[1], 1)], [(one[0], (False, 0), 1)],
                      [((1, 1), (0, 0), 1)], [((0, 1), (0, 1), 1)], [((0, 1), (1, 0), 1)],
                      [((0, 1, 0), (0, 0, 0), 1)], [((0,), (1,), 1)], [one, other, other]):
            for rule in RULES:
                self.assertIsNone(shown_by_sums(rule, EXCLUSIVE, ("sums", 9, wrong)), wrong)
                self.check(rule, EXCLUSIVE, ("sums", 9, wrong))

    def test_rising_goes_by_the_pairs_alone(self):
        rows = with_numbers(ROWS, (9, 7, 5, 3))
        self.assertEqual(shown_by_sums("any", EXCLUSIVE, ("sums", 9, rows)), (3, 2))
        self.assertIsNone(shown_by_sums("any", EXCLUSIVE, ("sums", 9, rows[::-1])))

    def test_other_kinds(self):
        for wrong in (("one",), ("sums",), ("sums", 1), ("sums", ROWS), ("sums", ROWS, 1), ("sums", 1, ROWS, 1),
                      ["sums", 1, ROWS], ("Sums", 1, ROWS), ("pairs", [row[:2] for row in ROWS]),
                      ("edges",) + EXCLUSIVE, ROWS, (("sums",), 1, ROWS), {"sums": ROWS}, ("pairs", 1, ROWS)):
            for rule in RULES:
                self.assertIsNone(shown_by_sums(rule, EXCLUSIVE, wrong), wrong)

    def test_of_anything(self):
        for thing in ANYTHING:
            for rule in RULES:
                for box in (EXCLUSIVE, UP, (((0, 1, 1),), ((1, 0, 0), (1, 1, 1)))):
                    self.assertIsNone(self.check(rule, box, thing))

    def test_anything_in_the_place_of_each_part(self):
        for thing in ANYTHING:
            for rule in RULES:
                for changed in with_part_changed(("sums", 1, ROWS), thing):
                    self.check(rule, EXCLUSIVE, changed)
                for changed in with_part_changed(("sums", 3, [((1,), (0,), 2)]), thing):
                    self.check(rule, UP, changed)

    def test_many(self):
        chance = random.Random(6)
        held = {True: 0, False: 0}
        for box in many_boxes(400):
            rows = [pair + (1,) for pair in sorted(itertools.product(*box)) if chance.random() < 0.6]
            rows = with_numbers(rows, [chance.randint(1, 5) for _ in rows])
            for top in (1, 2, 3, 5, 8, 13, 21, 34, 100):
                for rule in RULES:
                    held[self.check(rule, box, ("sums", top, rows)) is not None] += 1
        self.assertGreater(min(held.values()), 200)

    def test_no_more_than_the_least(self):
        chance = random.Random(7)
        for box in many_boxes(500, 7):
            rows = [pair + (chance.randint(1, 3),) for pair in sorted(itertools.product(*box))]
            for rule in RULES:
                if all_parted(rule, box):
                    leaves, depth = [dict(rows_plainly(box, rule, by))[box] for by in ("leaves", "depth")]
                    for top in range(1, 13):
                        shown = shown_by_sums(rule, box, ("sums", top, rows))
                        if shown is not None:
                            self.assertLessEqual(shown[0], leaves)
                            self.assertLessEqual(shown[1], depth)

    def test_untouched(self):
        for rule in RULES:
            check_untouched(self, shown_by_sums, rule, EXCLUSIVE, ("sums", 1, list(ROWS)))


class EvenSums(unittest.TestCase):
    def test_written_out(self):
        self.assertEqual(even_sums("any", EXCLUSIVE), ("sums", 1, ROWS))
        box = (((0, 1), (1, 1)), ((0, 0), (1, 0)))
        rows = [pair + (1,) for pair in sorted(itertools.product(*box))]
        self.assertEqual(even_sums("any", box), ("sums", 4, rows))
        self.assertEqual(even_sums("rising", box), ("sums", 4, rows))
        down = (box[1], box[0])
        rows = [pair + (1,) for pair in sorted(itertools.product(*down))]
        self.assertEqual(even_sums("any", down), ("sums", 4, rows))
        self.assertEqual(even_sums("rising", down), ("sums", 1, rows))

    def test_without_squares_the_top_is_one(self):
        self.assertEqual(even_sums("rising", DOWN), ("sums", 1, [((0,), (1,), 1)]))
        self.assertEqual(shown_by_sums("rising", DOWN, even_sums("rising", DOWN)), (1, 0))

    def test_the_least_top_with_which_it_holds(self):
        for box in many_boxes(600):
            for rule in RULES:
                told = even_sums(rule, box)
                self.assertIs(type(told), tuple)
                self.assertEqual((len(told), told[0]), (3, "sums"))
                self.assertIs(type(told[2]), list)
                self.assertTrue(is_plain(told))
                self.assertEqual(told[2], [pair + (1,) for pair in sorted(itertools.product(*box))])
                self.assertGreaterEqual(told[1], 1)
                self.assertIsNotNone(sums_plainly(rule, box, told))
                self.assertEqual(shown_by_sums(rule, box, told), sums_plainly(rule, box, told))
                if told[1] > 1:
                    self.assertIsNone(sums_plainly(rule, box, ("sums", told[1] - 1, told[2])))

    def test_whole_cases(self):
        for places in range(1, 6):
            box = case_by(tuple(sum(word) % 2 for word in words(places)))[1:]
            told = even_sums("any", box)
            self.assertEqual(shown_by_sums("any", box, told), sums_plainly("any", box, told))
            self.assertEqual(len(told[2]), 4 ** (places - 1))

    def test_a_new_list_each_time(self):
        told = even_sums("any", EXCLUSIVE)
        told[2].reverse()
        told[2].pop()
        self.assertEqual(even_sums("any", EXCLUSIVE), ("sums", 1, ROWS))


if __name__ == "__main__":
    unittest.main()
