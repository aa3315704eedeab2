import copy
import itertools
import random
import unittest

from tests.below import (a_paper, all_parted, boxes_plainly, check_shown, full_tries, partings_plainly, rows_plainly,
                         shown_plainly, strictly, tries_plainly)
from tests.samples import (ANYTHING, as_case, common_plainly, is_plain, some_boxes, some_rising_boxes,
                           with_part_changed, words)
from unlikeplace.boxes import partings
from unlikeplace.floors import floors_of, steps_of
from unlikeplace.pairs import many_pairs
from unlikeplace.sums import even_sums
from unlikeplace.tries import shown_by_tries

RULES = ("any", "rising")
ONE = ("one",)
EXCLUSIVE = (((0, 1), (1, 0)), ((0, 0), (1, 1)))
# A box with one parting alone.
TWO = (((0, 1), (1, 0)), ((0, 0),))
ODD = tuple(tuple(word for word in words(3) if sum(word) % 2 == bit) for bit in (1, 0))
LEAST_TWO = tuple(tuple(word for word in words(3) if (sum(word) >= 2) == bit) for bit in (True, False))


def in_all(box, paper):
    """The paper that has one paper at all its parts."""
    return ("tries", [(paper, paper) for _ in partings_plainly(box)])


def mostly_held(rule, box, chance):
    """A paper of any kind that mostly holds."""
    paper = a_paper(rule, box, chance, 1)
    while chance.random() < 0.9 and shown_plainly(rule, box, paper) is None:
        paper = a_paper(rule, box, chance, 1)
    return paper


class ShownByTries(unittest.TestCase):
    def check(self, rule, box, thing):
        right = tries_plainly(rule, box, thing)
        check_shown(self, shown_by_tries(rule, box, thing), right, thing)
        return right

    def test_written_out(self):
        self.assertEqual(shown_by_tries("any", TWO, ("tries", [(ONE, ONE)])), (2, 1))
        self.assertEqual(shown_by_tries("any", EXCLUSIVE, ("tries", [(ONE, ONE), (ONE, ONE)])), (2, 1))
        half = ("tries", [(ONE, ONE)])
        self.assertEqual(shown_by_tries("any", EXCLUSIVE, ("tries", [(half, half), (half, half)])), (4, 2))
        # The least is taken over the partings, of leaves and of depth each by itself.
        self.assertEqual(shown_by_tries("any", EXCLUSIVE, ("tries", [(half, ONE), (half, half)])), (3, 2))
        self.assertEqual(shown_by_tries("any", EXCLUSIVE, ("tries", [(half, ONE), (ONE, half)])), (3, 2))
        self.assertEqual(shown_by_tries("any", EXCLUSIVE, ("tries", [(half, half), (ONE, ONE)])), (2, 1))

    def test_leaves_and_depth_from_different_partings(self):
        # By "rising" no place parts a pair of this box, so that any number may stand for its pairs.
        box = (((0, 0, 0), (0, 0, 1)), ((0, 1, 1), (1, 1, 1)))
        by_no, by_yes = partings_plainly(box)
        many = ("floors", [(each, 50 if each == by_no[1] else 25) for each in boxes_plainly(by_no[1])])
        deep = ("steps", [(each, 8 if each == by_yes[2] else 7) for each in boxes_plainly(by_yes[2])])
        # The first parting shows 51 leaves and the depth 6, the second one 10 leaves and the depth 8.
        thing = ("tries", [(many, ONE), (ONE, deep)])
        self.assertEqual(shown_by_tries("rising", box, thing), (10, 7))
        self.check("rising", box, thing)

    def test_the_length_of_the_list(self):
        for box in (TWO, EXCLUSIVE, LEAST_TWO, (EXCLUSIVE[1], EXCLUSIVE[0])):
            ways = len(partings(box))
            for many in range(ways + 3):
                right = (2, 1) if many == ways else None
                self.assertEqual(shown_by_tries("any", box, ("tries", [(ONE, ONE)] * many)), right)

    def test_out_of_order(self):
        first, last = [("edges",) + part for part in partings(EXCLUSIVE)[0][1:]]
        other = [("edges",) + part for part in partings(EXCLUSIVE)[1][1:]]
        good = [(first, last), (other[0], other[1])]
        self.assertEqual(shown_by_tries("any", EXCLUSIVE, ("tries", good)), (4, 2))
        for wrong in (good[::-1], [(last, first), good[1]], [good[0], good[1][::-1]]):
            self.assertIsNone(shown_by_tries("any", EXCLUSIVE, ("tries", wrong)))
            self.assertIsNone(self.check("any", EXCLUSIVE, ("tries", wrong)))
        for box in (LEAST_TWO, ODD):
            right = [tuple(("edges",) + part for part in way[1:]) for way in partings_plainly(box)]
            self.assertIsNotNone(self.check("any", box, ("tries", right)))
            for at in range(len(right) - 1):
                changed = right[:at] + [right[at + 1], right[at]] + right[at + 2:]
                self.assertIsNone(shown_by_tries("any", box, ("tries", changed)))
                turned = right[:at] + [right[at][::-1]] + right[at + 1:]
                self.assertIsNone(shown_by_tries("any", box, ("tries", turned)))

    def test_a_common_place(self):
        box = (((0, 1), (1, 1)), ((0, 0), (1, 0)))
        for rule in RULES:
            self.assertIsNone(shown_by_tries(rule, box, in_all(box, ONE)))
        down = (box[1], box[0])
        self.assertIsNone(shown_by_tries("any", down, in_all(down, ONE)))
        self.assertEqual(shown_by_tries("rising", down, in_all(down, ONE)), (2, 1))

    def test_one_parting_at_least(self):
        down, up = (((0,),), ((1,),)), (((1,),), ((0,),))
        for rule in RULES:
            for box in (down, up):
                self.assertIsNone(shown_by_tries(rule, box, ("tries", [])))
                self.assertIsNone(shown_by_tries(rule, box, ("tries", [(ONE, ONE)])))
        self.assertEqual(common_plainly("rising", down), [])

    def test_eight_words_and_more(self):
        for size in range(2, 12):
            some = words(4)[-size:]
            for middle in range(1, size):
                box = (tuple(some[:middle]), tuple(some[middle:]))
                for rule in RULES:
                    told = shown_by_tries(rule, box, in_all(box, ONE))
                    right = size <= 8 and size > 2 and not common_plainly(rule, box)
                    self.assertEqual(told, (2, 1) if right else None)
        whole = (tuple(words(5)[:16]), tuple(words(5)[16:]))
        for thing in (("tries", []), ("tries", [(ONE, ONE)]), ("tries", [(ONE, ONE)] * 20000)):
            self.assertIsNone(shown_by_tries("rising", whole, thing))

    def test_papers_of_any_kind(self):
        box = TWO
        part = (box[0][:1], box[1])
        pair = (part[0][0], part[1][0])
        for paper, shown in ((ONE, (1, 0)), (("edges",) + part, (1, 0)),
                             (("pairs", [pair]), (1, 0)), (("sums", 1, [pair + (1,)]), (1, 0)),
                             (("sums", 2, [pair + (2,)]), (1, 0)), (("floors", [(part, 1)]), (1, 0)),
                             (("floors", [(part, 0)]), (0, 0)), (("floors", [(part, -7)]), (-7, 0)),
                             (("steps", [(part, 0)]), (1, 0)), (("steps", [(part, -3)]), (-2, -3))):
            told = shown_by_tries("any", box, ("tries", [(paper, ONE)]))
            self.assertEqual(told, (1 + shown[0], 1 + max(0, shown[1])))
            self.assertEqual(self.check("any", box, ("tries", [(paper, ONE)])), told)
        low = ("steps", [((box[0][:1], box[1]), -3)]), ("steps", [((box[0][1:], box[1]), -5)])
        self.assertEqual(shown_by_tries("any", box, ("tries", [low])), (-6, -2))

    def test_papers_that_do_not_hold(self):
        box = TWO
        part = (box[0][:1], box[1])
        pair = (part[0][0], part[1][0])
        other = (box[0][1], box[1][0])
        for wrong in (("one", 1), ["one"], "one", (), ("two",), None, ("tries", []), ("tries", [(ONE, ONE)]),
                      ("pairs", []), ("pairs", [other]), ("pairs", [pair, other]), ("sums", 1, [pair + (2,)]),
                      ("sums", 0, [pair + (1,)]), ("sums", 1, [other + (1,)]), ("edges", part[1], part[0]),
                      ("edges", box[0], box[1]), ("floors", []), ("floors", [(part, 2)]), ("floors", [(box, 1)]),
                      ("steps", [(part, 1)]), ("steps", []), ("floors", [(part, True)]), ("steps", [(part, False)]),
                      ("floors", ((part, 1),)), ("floors", [(part, 1)], 1), ["floors", [(part, 1)]],
                      ("steps", [(part, 0)], 0), ["steps", [(part, 0)]], ("Floors", [(part, 1)])):
            self.assertIsNone(shown_by_tries("any", box, ("tries", [(wrong, ONE)])), wrong)
            self.check("any", box, ("tries", [(ONE, wrong)]))
            half = ("tries", [(ONE, wrong)])
            self.check("any", EXCLUSIVE, ("tries", [(half, ONE), (ONE, ONE)]))
            half = ("tries", [(wrong, ONE)])
            self.assertIsNone(shown_by_tries("any", EXCLUSIVE, ("tries", [(half, ONE), (ONE, ONE)])), wrong)
            self.assertIsNone(shown_by_tries("any", EXCLUSIVE, ("tries", [(ONE, half), (half, ONE)])), wrong)

    def test_floors_and_steps(self):
        for box, rule in ((EXCLUSIVE, "any"), (ODD, "any"), (LEAST_TWO, "any"), (LEAST_TWO, "rising")):
            for told, kind in ((floors_of, "floors"), (steps_of, "steps")):
                thing = ("tries", [tuple((kind, told(as_case(part), rule)) for part in way[1:])
                                   for way in partings(box)])
                shown = self.check(rule, box, thing)
                self.assertIsNotNone(shown)
                if kind == "floors":
                    self.assertEqual(shown[0], dict(floors_of(as_case(box), rule))[box])
                else:
                    self.assertEqual(shown[1], dict(steps_of(as_case(box), rule))[box])
                low = thing[1][-1][1][1]
                low[0] = (low[0][0], low[0][1] + 1)
                self.assertIsNone(shown_by_tries(rule, box, thing))

    def test_by_rising_of_boxes_that_do_not_grow(self):
        box = (((0, 1), (1, 0)), ((1, 1),))
        parts = [((word,), box[1]) for word in box[0]]
        for one, other in itertools.product((0, 3, 50), repeat=2):
            thing = ("tries", [(("floors", [(parts[0], one)]), ("steps", [(parts[1], other)]))])
            height = {0: 0, 3: 2, 50: 6}[one]
            self.assertEqual(shown_by_tries("rising", box, thing), (one + other + 1, 1 + max(height, other)))
            self.check("rising", box, thing)
            self.assertEqual(self.check("any", box, thing) is None, one > 1 or other > 0)

    def test_tries_within_tries_show_the_least(self):
        boxes = [(rule, box) for places in range(1, 6) for rule, box in itertools.chain(
            [("any", box) for box in some_boxes(places, 12, places, 6)],
            [("rising", box) for box in some_rising_boxes(places, 12, 10 + places, 6)])]
        for rule, box in boxes + [("any", ODD), ("rising", LEAST_TWO), ("any", LEAST_TWO)]:
            thing = full_tries(rule, box)
            if thing == ONE:
                self.assertIsNone(shown_by_tries(rule, box, thing))
                continue
            told = shown_by_tries(rule, box, thing)
            self.assertEqual(told, tuple(dict(rows_plainly(box, rule, by))[box] for by in ("leaves", "depth")))
            self.assertTrue(is_plain(told))

    def test_one_wrong_paper_far_within(self):
        thing = full_tries("any", LEAST_TWO)
        self.assertEqual(shown_by_tries("any", LEAST_TWO, thing), (5, 3))
        within = thing
        while within[1][-1][-1] != ONE:
            within = within[1][-1][-1]
        within[1][-1] = (within[1][-1][0], ("one", 1))
        self.assertIsNone(shown_by_tries("any", LEAST_TWO, thing))
        within[1][-1] = (within[1][-1][0], ONE)
        self.assertEqual(shown_by_tries("any", LEAST_TWO, thing), (5, 3))

    def test_many_mixed(self):
        chance = random.Random(3)
        held = {True: 0, False: 0}
        shown = set()
        for places in range(1, 6):
            for box in some_boxes(places, 30, 20 + places, 5) + some_rising_boxes(places, 30, 30 + places, 5):
                for rule in RULES:
                    for _ in range(6):
                        thing = ("tries", [tuple(mostly_held(rule, part, chance) for part in way[1:])
                                           for way in partings_plainly(box)])
                        right = self.check(rule, box, thing)
                        held[right is not None] += 1
                        shown.add(right)
                        if right is not None and all_parted(rule, box):
                            self.assertLessEqual(right[0], dict(rows_plainly(box, rule, "leaves"))[box])
                            self.assertLessEqual(right[1], dict(rows_plainly(box, rule, "depth"))[box])
        self.assertGreater(min(held.values()), 100)
        self.assertGreater(len(shown), 5)

    def test_papers_that_are_told(self):
        for box in (EXCLUSIVE, ODD, LEAST_TWO):
            for rule in RULES:
                for told in (many_pairs, even_sums):
                    thing = ("tries", [tuple(told(rule, part) for part in way[1:]) for way in partings(box)])
                    self.assertIsNotNone(self.check(rule, box, thing))

    def test_wrong_lists(self):
        good = (ONE, ONE)
        for wrong in ((good,), {0: good}, {good: 1}, None, "", good, [], [good, good], [list(good)], [ONE],
                      [good + ONE], [None], [()], [(ONE,)], [(ONE, ONE, ONE)], [{0: ONE, 1: ONE}], ["ab"], [[good]],
                      [(good,)]):
            for rule in RULES:
                self.assertIsNone(shown_by_tries(rule, TWO, ("tries", wrong)), wrong)

    def test_other_kinds(self):
        part = [("tries", [(ONE, ONE)])]
        pairs = sorted(itertools.product(*TWO))
        self.assertEqual(shown_by_tries("any", TWO, part[0]), (2, 1))
        for wrong in (ONE, ("tries",), ("tries", [(ONE, ONE)], 1), ["tries", [(ONE, ONE)]], ("Tries", [(ONE, ONE)]),
                      ("pairs", pairs), ("pairs", [(ONE, ONE)]), ("sums", 1, [pair + (1,) for pair in pairs]),
                      ("edges",) + TWO, ("floors", floors_of(as_case(TWO), "any")), part,
                      ("steps", steps_of(as_case(TWO), "any")), (("tries",), [(ONE, ONE)]), {"tries": [(ONE, ONE)]}):
            for rule in RULES:
                self.assertIsNone(shown_by_tries(rule, TWO, wrong), wrong)

    def test_of_anything(self):
        for thing in ANYTHING:
            for rule in RULES:
                for box in (EXCLUSIVE, TWO, (((1,),), ((0,),)), ODD, (tuple(words(4)[:8]), tuple(words(4)[8:]))):
                    self.assertIsNone(self.check(rule, box, thing))

    def test_anything_in_the_place_of_each_part(self):
        part = (TWO[0][:1], TWO[1])
        pair = (part[0][0], part[1][0])
        papers = [ONE, ("pairs", [pair]), ("sums", 2, [pair + (1,)]), ("edges",) + part, ("floors", [(part, 1)]),
                  ("steps", [(part, 0)])]
        half = ("tries", [(ONE, ONE)])
        for thing in ANYTHING:
            for rule in RULES:
                for paper in papers:
                    for changed in with_part_changed(("tries", [(paper, ONE)]), thing):
                        self.check(rule, TWO, changed)
                for changed in with_part_changed(("tries", [(half, ONE), (ONE, half)]), thing):
                    self.check(rule, EXCLUSIVE, changed)

    def test_untouched(self):
        thing = full_tries("any", LEAST_TWO)
        before = copy.deepcopy(thing)
        told = shown_by_tries("any", LEAST_TWO, thing)
        self.assertTrue(strictly(thing, before))
        thing[1][0][0][1].clear()
        self.assertIsNone(shown_by_tries("any", LEAST_TWO, thing))
        thing[1].clear()
        self.assertIsNone(shown_by_tries("any", LEAST_TWO, thing))
        self.assertEqual(told, (5, 3))
        self.assertEqual(shown_by_tries("any", LEAST_TWO, before), (5, 3))
        partings(LEAST_TWO).clear()
        self.assertEqual(shown_by_tries("any", LEAST_TWO, before), (5, 3))


if __name__ == "__main__":
    unittest.main()
