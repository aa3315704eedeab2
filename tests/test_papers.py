import copy
import itertools
import random
import unittest

from tests.below import (a_paper, all_parted, boxes_plainly, check_shown, full_tries, partings_plainly, rows_plainly,
                         shown_plainly, strictly)
from tests.samples import (ANYTHING, a_let_by_talk, as_case, common_plainly, many_boxes, some_boxes,
                           some_rising_boxes, with_part_changed, words)
from unlikeplace.edges import shown_by_edges
from unlikeplace.floors import floors_of, steps_of
from unlikeplace.pairs import many_pairs, shown_by_pairs
from unlikeplace.papers import shown
from unlikeplace.sums import even_sums, shown_by_sums
from unlikeplace.talks import talk_deep, talk_leaves
from unlikeplace.tries import shown_by_tries

RULES = ("any", "rising")
ONE = ("one",)
UP, DOWN = (((1,),), ((0,),)), (((0,),), ((1,),))
# A box with one parting alone.
TWO = (((0, 1), (1, 0)), ((0, 0),))
EXCLUSIVE = (((0, 1), (1, 0)), ((0, 0), (1, 1)))
ODD = tuple(tuple(word for word in words(3) if sum(word) % 2 == bit) for bit in (1, 0))
LEAST_TWO = tuple(tuple(word for word in words(3) if (sum(word) >= 2) == bit) for bit in (True, False))
HALVES = (tuple(words(4)[8:]), tuple(words(4)[:8]))
OWN = {"pairs": shown_by_pairs, "sums": shown_by_sums, "edges": shown_by_edges, "tries": shown_by_tries}


def of_each_kind(rule, box):
    """A paper of each kind that holds for a box that grows by the rule, by kind."""
    papers = {"one": ONE, "pairs": many_pairs(rule, box), "sums": even_sums(rule, box), "edges": ("edges",) + box}
    if len(box[0]) + len(box[1]) <= 8:
        papers["floors"] = ("floors", rows_plainly(box, rule, "leaves"))
        papers["steps"] = ("steps", rows_plainly(box, rule, "depth"))
        if not common_plainly(rule, box):
            papers["tries"] = ("tries", [(ONE, ONE) for _ in partings_plainly(box)])
    return papers


def with_number(rows, box, number):
    return [(each, number if each == box else old) for each, old in rows]


class Shown(unittest.TestCase):
    def check(self, rule, box, thing):
        right = shown_plainly(rule, box, thing)
        check_shown(self, shown(rule, box, thing), right, thing)
        return right

    def test_one(self):
        for box in (UP, DOWN, TWO, EXCLUSIVE, ODD, HALVES):
            for rule in RULES:
                self.assertTrue(strictly(shown(rule, box, ONE), (1, 0)))
        for wrong in ((), ("one", 1), ("one", ()), ("one", "one"), ["one"], "one", ("One",), ("",), (ONE,), {"one": 1},
                      ("two",), (1,), (True,), (None,), (["one"],)):
            for rule in RULES:
                self.assertIsNone(shown(rule, TWO, wrong), wrong)

    def test_written_out(self):
        pairs = sorted(itertools.product(*EXCLUSIVE))
        self.assertEqual(shown("any", EXCLUSIVE, ("pairs", pairs)), (4, 2))
        self.assertEqual(shown("any", EXCLUSIVE, ("sums", 1, [pair + (1,) for pair in pairs])), (4, 2))
        self.assertEqual(shown("any", EXCLUSIVE, ("sums", 3, [pair + (3,) for pair in pairs])), (4, 2))
        self.assertEqual(shown("any", EXCLUSIVE, ("sums", 4, [pair + (3,) for pair in pairs])), (3, 2))
        self.assertEqual(shown("any", EXCLUSIVE, ("edges",) + EXCLUSIVE), (4, 2))
        half = ("tries", [(ONE, ONE)])
        self.assertEqual(shown("any", EXCLUSIVE, ("tries", [(half, half), (half, half)])), (4, 2))
        self.assertEqual(shown("any", EXCLUSIVE, ("floors", floors_of(as_case(EXCLUSIVE), "any"))), (4, 2))
        self.assertEqual(shown("any", EXCLUSIVE, ("steps", steps_of(as_case(EXCLUSIVE), "any"))), (3, 2))
        self.assertEqual(shown("any", ODD, ("edges",) + ODD), (9, 4))
        self.assertEqual(shown("any", ODD, ("floors", floors_of(as_case(ODD), "any"))), (10, 4))
        self.assertEqual(shown("any", ODD, ("steps", steps_of(as_case(ODD), "any"))), (5, 4))
        for rule in RULES:
            self.assertEqual(shown(rule, LEAST_TWO, ("floors", floors_of(as_case(LEAST_TWO), rule))), (5, 3))
            self.assertEqual(shown(rule, LEAST_TWO, ("steps", steps_of(as_case(LEAST_TWO), rule))), (4, 3))

    def test_what_the_function_of_the_kind_tells(self):
        chance = random.Random(1)
        kinds = {kind: {True: 0, False: 0} for kind in OWN}
        for box in many_boxes(100, 7):
            for rule in RULES:
                papers = [a_paper(rule, box, chance, 1) for _ in range(6)] + [("edges",) + box[::-1]]
                if all_parted(rule, box):
                    papers += of_each_kind(rule, box).values()
                for paper in papers:
                    told = shown(rule, box, paper)
                    check_shown(self, told, shown_plainly(rule, box, paper), paper)
                    for kind, own in OWN.items():
                        if kind == paper[0]:
                            check_shown(self, own(rule, box, paper), told, paper)
                            kinds[kind][told is not None] += 1
                        else:
                            check_shown(self, own(rule, box, paper), None, paper)
        self.assertGreater(min(min(many.values()) for many in kinds.values()), 10, kinds)

    def test_each_of_the_four_is_of_its_own_kind_alone(self):
        for rule, box in (("any", TWO), ("rising", TWO), ("any", EXCLUSIVE), ("any", LEAST_TWO), ("rising", LEAST_TWO)):
            papers = of_each_kind(rule, box)
            self.assertEqual(len(papers), 7)
            for kind, paper in papers.items():
                self.assertIsNotNone(shown(rule, box, paper), paper)
                for own in OWN:
                    self.assertEqual(OWN[own](rule, box, paper) is None, own != kind, (own, paper))

    def test_floors(self):
        for rule, box in [("any", ODD), ("any", LEAST_TWO), ("rising", LEAST_TWO), ("any", EXCLUSIVE), ("rising", TWO)]:
            rows = floors_of(as_case(box), rule)
            least = dict(rows)[box]
            for number, good in ((least, True), (least - 1, True), (1, True), (0, True), (-5, True), (least + 1, False),
                                 (10 ** 29, False)):
                thing = ("floors", with_number(rows, box, number))
                height = {1: 0, 2: 1, 3: 2, 4: 2, 5: 3, 9: 4, 10: 4}.get(number, 0)
                check_shown(self, shown(rule, box, thing), (number, height) if good else None, thing)
                self.check(rule, box, thing)

    def test_steps(self):
        for rule, box in [("any", ODD), ("any", LEAST_TWO), ("rising", LEAST_TWO), ("any", EXCLUSIVE), ("rising", TWO)]:
            rows = steps_of(as_case(box), rule)
            least = dict(rows)[box]
            for number, good in ((least, True), (least - 1, True), (0, True), (-5, True), (least + 1, False),
                                 (10 ** 29, False)):
                thing = ("steps", with_number(rows, box, number))
                check_shown(self, shown(rule, box, thing), (number + 1, number) if good else None, thing)
                self.check(rule, box, thing)

    def test_floors_are_no_steps(self):
        floors, steps = floors_of(as_case(EXCLUSIVE), "any"), steps_of(as_case(EXCLUSIVE), "any")
        self.assertIsNone(shown("any", EXCLUSIVE, ("steps", floors)))
        # As floors the steps say 0 of a pair: too little for the 1 of two pairs.
        self.assertIsNone(shown("any", EXCLUSIVE, ("floors", steps)))
        for kind in ("floors", "steps"):
            rows = {"floors": floors, "steps": steps}[kind]
            for wrong in ((kind,), (kind, rows, rows), [kind, rows], (kind.upper(), rows), (kind, tuple(rows)), rows,
                          (kind, rows[::-1]), (kind, rows[1:]), (kind, rows[:-1]), (kind, []), (kind, None),
                          (kind, dict(rows)), (kind, 1, rows), (kind, rows + rows[-1:])):
                self.assertIsNone(shown("any", EXCLUSIVE, wrong), wrong)
            self.assertIsNotNone(shown("any", EXCLUSIVE, (kind, rows)))

    def test_floors_and_steps_of_another_box(self):
        part = (EXCLUSIVE[0][:1], EXCLUSIVE[1])
        for kind, by in (("floors", "leaves"), ("steps", "depth")):
            thing = (kind, rows_plainly(EXCLUSIVE, "any", by))
            self.assertIsNone(shown("any", part, thing))
            own = (kind, rows_plainly(part, "any", by))
            self.assertIsNotNone(shown("any", part, own))
            self.assertIsNone(shown("any", EXCLUSIVE, own))
            self.assertIsNone(shown("any", EXCLUSIVE[::-1], thing))

    def test_by_rising_of_boxes_that_do_not_grow(self):
        for number in (0, 1, 7, 10 ** 29, -3):
            height = {7: 3, 10 ** 29: 97}.get(number, 0)
            self.assertEqual(shown("rising", DOWN, ("floors", [(DOWN, number)])), (number, height))
            self.assertEqual(shown("rising", DOWN, ("steps", [(DOWN, number)])), (number + 1, number))
            self.assertEqual(shown("any", DOWN, ("floors", [(DOWN, number)])), (number, 0) if number <= 1 else None)
            self.assertEqual(shown("any", DOWN, ("steps", [(DOWN, number)])), (number + 1, number) if number <= 0
                             else None)
        for kind in ("floors", "steps"):
            thing = (kind, [(each, 0) for each in boxes_plainly(EXCLUSIVE)])
            self.assertIsNotNone(self.check("rising", EXCLUSIVE, thing))

    def test_more_than_eight_words(self):
        some = words(4)
        nine = (tuple(some[5:9]), tuple(some[:5]))
        for rule in RULES:
            for kind in ("floors", "steps"):
                thing = (kind, [(each, 0) for each in boxes_plainly(nine)])
                self.assertIsNone(shown(rule, nine, thing))
                self.assertIsNone(shown(rule, HALVES, (kind, [])))
                self.assertIsNone(shown(rule, HALVES, (kind, [(HALVES, 0)])))
            self.assertIsNone(shown(rule, nine, ("tries", [(ONE, ONE) for _ in partings_plainly(nine)])))
            for thing in (ONE, many_pairs(rule, nine), even_sums(rule, nine), ("edges",) + nine):
                self.assertIsNotNone(self.check(rule, nine, thing))

    def test_of_anything(self):
        for thing in ANYTHING:
            for rule in RULES:
                for box in (UP, DOWN, TWO, EXCLUSIVE, ODD, HALVES):
                    self.assertIsNone(self.check(rule, box, thing))
                for kind in ("one", "pairs", "sums", "edges", "tries", "floors", "steps"):
                    for paper in ((kind, thing), (kind, thing, thing), (thing, kind), (thing,), (thing, [])):
                        self.check(rule, TWO, paper)

    def test_anything_in_the_place_of_each_part(self):
        for thing in ANYTHING:
            for rule, box in (("any", UP), ("rising", UP), ("any", DOWN), ("rising", TWO), ("any", TWO)):
                for paper in of_each_kind(rule, box).values():
                    for changed in with_part_changed(paper, thing):
                        self.check(rule, box, changed)

    def test_truths_in_the_place_of_bits_and_numbers(self):
        for rule in RULES:
            for paper in of_each_kind(rule, UP).values():
                self.assertIsNotNone(self.check(rule, UP, paper))
                for truth in (True, False):
                    for changed in with_part_changed(paper, truth):
                        self.assertIsNone(self.check(rule, UP, changed))


class NoLess(unittest.TestCase):
    """Whatever holds, no talk that is let by has fewer leaves or is less deep."""

    def check(self, rule, box, paper, talks, least):
        told = shown(rule, box, paper)
        if told is not None:
            self.assertLessEqual(told[0], least[0])
            self.assertLessEqual(told[1], least[1])
            for talk in talks:
                self.assertGreaterEqual(talk_leaves(talk), told[0])
                self.assertGreaterEqual(talk_deep(talk), told[1])
        return told

    def changed(self, paper, chance):
        """A paper with one number in it changed."""
        if type(paper) is int:
            return paper + chance.choice((1, 1, 2, 5))
        if type(paper) not in (tuple, list) or not paper:
            return paper
        at = chance.randrange(len(paper))
        return paper[:at] + type(paper)([self.changed(paper[at], chance)]) + paper[at + 1:]

    def test_many(self):
        chance = random.Random(2)
        kinds = {}
        for places in range(1, 6):
            boxes = [("any", box) for box in some_boxes(places, 20, 200 + places, 6)]
            boxes += [("rising", box) for box in some_rising_boxes(places, 20, 210 + places, 6)]
            for rule, box in boxes + [("any", box) for rule, box in boxes if rule == "rising"]:
                self.assertTrue(all_parted(rule, box))
                talks = [a_let_by_talk(rule, box, chance) for _ in range(4)]
                least = tuple(dict(rows_plainly(box, rule, by))[box] for by in ("leaves", "depth"))
                papers = list(of_each_kind(rule, box).values())
                papers += [a_paper(rule, box, chance, 2) for _ in range(4)]
                papers += [self.changed(paper, chance) for paper in papers for _ in range(3)]
                for paper in papers:
                    if self.check(rule, box, paper, talks, least) is not None:
                        kinds[paper[0]] = kinds.get(paper[0], 0) + 1
        self.assertEqual(len(kinds), 7)
        self.assertGreater(min(kinds.values()), 50, kinds)

    def test_the_least_itself_is_shown(self):
        for places in range(1, 6):
            boxes = [("any", box) for box in some_boxes(places, 6, 220 + places, 6)]
            boxes += [("rising", box) for box in some_rising_boxes(places, 6, 230 + places, 6)]
            for rule, box in boxes:
                least = tuple(dict(rows_plainly(box, rule, by))[box] for by in ("leaves", "depth"))
                self.assertEqual(shown(rule, box, full_tries(rule, box)), least)
                self.assertEqual(shown(rule, box, ("floors", rows_plainly(box, rule, "leaves")))[0], least[0])
                self.assertEqual(shown(rule, box, ("steps", rows_plainly(box, rule, "depth")))[1], least[1])


class Untouched(unittest.TestCase):
    def test_handed_in(self):
        for rule, box in (("any", LEAST_TWO), ("rising", LEAST_TWO), ("any", EXCLUSIVE)):
            for kind, paper in of_each_kind(rule, box).items():
                before = copy.deepcopy(paper)
                told = shown(rule, box, paper)
                kept = copy.deepcopy(told)
                self.assertTrue(strictly(paper, before))
                for part in paper:
                    if type(part) is list:
                        part.clear()
                        self.assertIsNone(shown(rule, box, paper))
                self.assertTrue(strictly(told, kept))
                self.assertTrue(strictly(shown(rule, box, before), kept))


if __name__ == "__main__":
    unittest.main()
