import random
import unittest

from tests.below import all_parted, check_shown, edges_plainly, height_plainly, rows_plainly, strictly
from tests.samples import ANYTHING, many_boxes, with_part_changed, words
from unlikeplace.cases import case_by
from unlikeplace.edges import shown_by_edges

RULES = ("any", "rising")
EXCLUSIVE = (((0, 1), (1, 0)), ((0, 0), (1, 1)))
WHOLE = ("edges",) + EXCLUSIVE


class ShownByEdges(unittest.TestCase):
    def check(self, rule, box, thing):
        right = edges_plainly(rule, box, thing)
        check_shown(self, shown_by_edges(rule, box, thing), right, thing)
        return right

    def test_written_out(self):
        self.assertEqual(shown_by_edges("any", EXCLUSIVE, WHOLE), (4, 2))
        # By "rising" two edges of the four: 4 is no less than 2 times 2.
        self.assertEqual(shown_by_edges("rising", EXCLUSIVE, WHOLE), (1, 0))
        self.assertEqual(shown_by_edges("any", EXCLUSIVE, ("edges", ((0, 1),), EXCLUSIVE[1])), (2, 1))
        self.assertEqual(shown_by_edges("any", EXCLUSIVE, ("edges", ((0, 1),), ((1, 1),))), (1, 0))
        self.assertEqual(shown_by_edges("rising", EXCLUSIVE, ("edges", EXCLUSIVE[0], ((0, 0),))), (2, 1))

    def test_none_is_nothing(self):
        self.assertEqual(shown_by_edges("rising", EXCLUSIVE, ("edges", ((0, 1),), ((1, 1),))), (0, 0))
        self.assertEqual(shown_by_edges("rising", (((0,),), ((1,),)), ("edges", ((0,),), ((1,),))), (0, 0))
        self.assertEqual(shown_by_edges("any", (((0, 0),), ((1, 1),)), ("edges", ((0, 0),), ((1, 1),))), (0, 0))
        box = (((1, 1, 0), (1, 1, 1)), ((0, 0, 0), (0, 0, 1)))
        for rule in RULES:
            self.assertEqual(shown_by_edges(rule, box, ("edges",) + box), (0, 0))

    def test_rounded_upward(self):
        yes, no = ((0, 1), (1, 0), (1, 1)), ((0, 0),)
        self.assertEqual(shown_by_edges("any", (yes, no), ("edges", yes, no)), (2, 1))
        self.assertEqual(shown_by_edges("any", (yes, no), ("edges", yes[1:], no)), (1, 0))
        self.assertEqual(shown_by_edges("any", (yes, no), ("edges", yes[:2], no)), (2, 1))
        least_two = tuple(word for word in words(3) if sum(word) >= 2)
        others = tuple(word for word in words(3) if sum(word) < 2)
        # Six edges, four and four words, by both rules: 36 is more than 2 times 16.
        for rule in RULES:
            self.assertEqual(shown_by_edges(rule, (least_two, others), ("edges", least_two, others)), (3, 2))

    def test_differing_at_two_places_is_no_edge(self):
        # By "rising" the place 0 parts the pair, but they differ at the place 1, too.
        box = (((1, 0),), ((0, 1),))
        for rule in RULES:
            self.assertEqual(shown_by_edges(rule, box, ("edges",) + box), (0, 0))

    def test_whole_cases(self):
        for places in range(1, 6):
            box = case_by(tuple(sum(word) % 2 for word in words(places)))[1:]
            self.assertEqual(shown_by_edges("any", box, ("edges",) + box), (places ** 2, height_plainly(places ** 2)))
            self.check("rising", box, ("edges",) + box)

    def test_wrong_words(self):
        yes, no = EXCLUSIVE
        for wrong in ((), list(yes), [], None, "", {}, yes[::-1], yes + yes[:1], yes[:1] * 2, no, no[:1], yes + no,
                      (None,), ([0, 1],), ((0,),), ((0, 1, 0),), ((False, 1),), ((0, True),), (yes,), (0, 1), ("01",),
                      (0,), {(0, 1): 1}):
            for rule in RULES:
                self.assertIsNone(shown_by_edges(rule, EXCLUSIVE, ("edges", wrong, no)), wrong)
                self.assertIsNone(self.check(rule, EXCLUSIVE, ("edges", wrong, no[:1])), wrong)
        for wrong in ((), list(no), [], None, "", {}, no[::-1], no + no[:1], no[:1] * 2, yes, yes[:1], yes + no,
                      (None,), ([0, 0],), ((0,),), ((0, 0, 0),), ((False, 0),), ((1, True),), (no,), (0, 0), ("00",),
                      (0,), {(0, 0): 1}):
            for rule in RULES:
                self.assertIsNone(shown_by_edges(rule, EXCLUSIVE, ("edges", yes, wrong)), wrong)
                self.assertIsNone(self.check(rule, EXCLUSIVE, ("edges", yes[:1], wrong)), wrong)

    def test_words_of_the_case_that_are_not_in_the_box(self):
        box = (((0, 1),), ((0, 0),))
        self.assertEqual(shown_by_edges("any", box, ("edges", ((0, 1),), ((0, 0),))), (1, 0))
        self.assertIsNone(shown_by_edges("any", box, WHOLE))
        self.assertIsNone(shown_by_edges("any", box, ("edges", ((0, 1),), ((0, 0), (1, 1)))))
        self.assertIsNone(shown_by_edges("any", box, ("edges", ((0, 1), (1, 0)), ((0, 0),))))

    def test_other_kinds(self):
        yes, no = EXCLUSIVE
        for wrong in (("one",), ("edges",), ("edges", yes), ("edges", EXCLUSIVE), ("edges", yes, no, no),
                      ["edges", yes, no], ("Edges", yes, no), EXCLUSIVE, (("edges",), yes, no), {"edges": EXCLUSIVE},
                      ("pairs", [(yes[0], no[0])]), ("sums", 1, [(yes[0], no[0], 1)]), ("edges", no, yes),
                      ("pairs", yes, no), ("sums", yes, no)):
            for rule in RULES:
                self.assertIsNone(shown_by_edges(rule, EXCLUSIVE, wrong), wrong)

    def test_of_anything(self):
        for thing in ANYTHING:
            for rule in RULES:
                for box in (EXCLUSIVE, (((1,),), ((0,),)), (((0, 1, 1),), ((1, 0, 0), (1, 1, 1)))):
                    self.assertIsNone(self.check(rule, box, thing))

    def test_anything_in_the_place_of_each_part(self):
        for thing in ANYTHING:
            for rule in RULES:
                for changed in with_part_changed(WHOLE, thing):
                    self.check(rule, EXCLUSIVE, changed)
                for changed in with_part_changed(("edges", ((1,),), ((0,),)), thing):
                    self.check(rule, (((1,),), ((0,),)), changed)

    def test_many(self):
        chance = random.Random(9)
        found = set()
        for box in many_boxes(700):
            for _ in range(6):
                yes, no = [tuple(sorted(chance.sample(side, chance.randint(1, len(side))))) for side in box]
                for rule in RULES:
                    found.add(self.check(rule, box, ("edges", yes, no)))
                    self.assertIsNotNone(shown_by_edges(rule, box, ("edges", yes, no)))
        self.assertGreater(len(found), 6)

    def test_no_more_than_the_least(self):
        for box in many_boxes(800, 7):
            for rule in RULES:
                if all_parted(rule, box):
                    shown = shown_by_edges(rule, box, ("edges",) + box)
                    self.assertLessEqual(shown[0], dict(rows_plainly(box, rule, "leaves"))[box])
                    self.assertLessEqual(shown[1], dict(rows_plainly(box, rule, "depth"))[box])

    def test_the_same_again_and_untouched(self):
        wrong = ["edges", list(EXCLUSIVE[0]), {0: [1]}]
        thing = ("edges", EXCLUSIVE[0], wrong)
        self.assertIsNone(shown_by_edges("any", EXCLUSIVE, thing))
        self.assertTrue(strictly(thing, ("edges", EXCLUSIVE[0], ["edges", list(EXCLUSIVE[0]), {0: [1]}])))
        wrong.clear()
        for _ in range(3):
            self.assertEqual(shown_by_edges("any", EXCLUSIVE, WHOLE), (4, 2))


if __name__ == "__main__":
    unittest.main()
