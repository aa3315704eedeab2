"""What the document promises over the whole program: point [3], and point [2]."""

import ast
import copy
import itertools
import os
import random
import unittest

from tests.below import all_parted, strictly
from tests.samples import (a_let_by_talk, all_small_cases, as_case, is_plain, parting_places, some_boxes, some_cases,
                           some_rising_boxes, some_sayings, some_talks, value_plainly, words)
from unlikeplace.boxes import boxes, partings
from unlikeplace.cases import case_by, case_of, pairs_in
from unlikeplace.catalogue import catalogue
from unlikeplace.ends import cut, ends_of
from unlikeplace.errors import TalkError
from unlikeplace.fixed import fixed_case, fixed_talk
from unlikeplace.floors import floors_hold, floors_of, steps_hold, steps_of
from unlikeplace.leads import saying_of, talk_of
from unlikeplace.leasts import least
from unlikeplace.pairs import many_pairs
from unlikeplace.papers import shown
from unlikeplace.plain import by_no, by_yes
from unlikeplace.put import put_case, put_saying, put_talk
from unlikeplace.reader import read_case, read_saying, read_table, read_talk
from unlikeplace.sayings import against, deep, leaves, parts, table_by, without_not
from unlikeplace.squares import common, squares
from unlikeplace.sums import even_sums
from unlikeplace.talks import lets_by, spoken, talk_deep, talk_leaves
from unlikeplace.texts import show_saying, show_table, show_talk, show_words
from unlikeplace.turned import (exchanged_case, exchanged_saying, exchanged_talk, flipped_case, flipped_saying,
                                flipped_talk, swapped_case, swapped_talk)
from unlikeplace.words import all_words

RULES = ("any", "rising")
BOTH = ("leaves", "depth")
FOLDER = os.path.join(os.path.dirname(os.path.dirname(os.path.abspath(__file__))), "unlikeplace")
EXCLUSIVE = (2, ((0, 1), (1, 0)), ((0, 0), (1, 1)))
LEAST_TWO = case_by(tuple(int(sum(word) >= 2) for word in words(3)))

# All names that the interface lists, with how many arguments they take.
INTERFACE = {
    "words": {"is_word": 2, "all_words": 1, "height": 1},
    "tables": {"is_table": 1, "places_of": 1, "table_of": 2, "value_at": 2, "grows": 1},
    "cases": {"case_of": 3, "case_by": 1, "pairs_in": 1},
    "sayings": {"is_saying": 2, "value": 2, "deep": 1, "leaves": 1, "table_by": 2, "against": 1, "without_not": 1,
                "parts": 2, "missed": 2},
    "plain": {"joined": 2, "by_yes": 1, "by_no": 1},
    "talks": {"is_talk": 2, "spoken": 3, "talk_deep": 1, "talk_leaves": 1, "lets_by": 3, "fault": 3},
    "ends": {"ends_of": 2, "cut": 2}, "leads": {"talk_of": 2, "saying_of": 2},
    "squares": {"common": 2, "squares": 2, "case_grows": 1},
    "pairs": {"shown_by_pairs": 3, "many_pairs": 2}, "sums": {"shown_by_sums": 3, "even_sums": 2},
    "edges": {"shown_by_edges": 3}, "tries": {"shown_by_tries": 3}, "papers": {"shown": 3},
    "boxes": {"partings": 1, "boxes": 1},
    "floors": {"floors_of": 2, "steps_of": 2, "floors_hold": 3, "steps_hold": 3}, "leasts": {"least": 3},
    "catalogue": {"catalogue": 3},
    "turned": {"flipped_case": 2, "flipped_saying": 2, "flipped_talk": 2, "exchanged_case": 2, "exchanged_saying": 2,
               "exchanged_talk": 2, "swapped_case": 1, "swapped_talk": 1},
    "fixed": {"fixed_case": 3, "fixed_talk": 3}, "put": {"put_case": 2, "put_saying": 3, "put_talk": 4},
    "texts": {"show_words": 1, "show_table": 1, "show_saying": 1, "show_talk": 1},
    "reader": {"read_saying": 2, "read_talk": 2, "read_table": 1, "read_case": 1},
}


def grown(seed, many, most=32):
    """(rule, box) that grow by the rule, of all numbers of places."""
    for places in range(1, 6):
        for box in some_boxes(places, many, seed + places, most):
            yield "any", box
        for box in some_rising_boxes(places, many, seed + 10 + places, most):
            yield "rising", box


class Interface(unittest.TestCase):
    def test_names_and_arguments(self):
        for module, names in INTERFACE.items():
            with open(os.path.join(FOLDER, module + ".py"), encoding="utf-8") as file:
                tree = ast.parse(file.read())
            found = {node.name: node for node in tree.body if isinstance(node, ast.FunctionDef)}
            for name, many in names.items():
                self.assertEqual(len(found[name].args.args), many, f"{module}.{name}")
                self.assertEqual((found[name].args.defaults, found[name].args.kwonlyargs), ([], []), name)


class TalksAndSayings(unittest.TestCase):
    def test_let_by_just_where_each_pair_ends_well_and_ends_part_the_pairs(self):
        for places in range(1, 5):
            for case in all_small_cases(places) if places < 3 else some_cases(places, 15, 1400 + places):
                pairs = list(itertools.product(case[1], case[2]))
                for talk in some_talks(places, 10, 1410 + places):
                    for rule in RULES:
                        right = all(spoken(talk, yes, no)[1] in parting_places(rule, yes, no) for yes, no in pairs)
                        self.assertIs(lets_by(case, rule, talk), right)
                    ends = ends_of(case, talk)
                    came = [pair for bits, place, yes, no in ends for pair in itertools.product(yes, no)]
                    self.assertEqual(sorted(came), pairs)
                    for bits, place, yes, no in ends:
                        for pair in itertools.product(yes, no):
                            self.assertEqual(spoken(talk, *pair), (bits, place))

    def test_led_into_one_another_without_growing(self):
        chance = random.Random(1)
        for rule, box in grown(1420, 25):
            case = as_case(box)
            talk = a_let_by_talk(rule, box, chance)
            for _ in range(3):
                saying = saying_of(case, talk)
                self.assertIs(parts(case, saying), True)
                self.assertLessEqual(leaves(saying), talk_leaves(talk))
                self.assertLessEqual(deep(saying), talk_deep(talk))
                # Where no 0 is asked for, none comes.
                self.assertTrue(rule == "any" or without_not(saying))
                again = talk_of(case, saying)
                self.assertIs(lets_by(case, rule, again), True)
                self.assertLessEqual(talk_leaves(again), leaves(saying))
                self.assertLessEqual(talk_deep(again), deep(saying))
                talk = again

    def test_the_saying_of_a_question(self):
        for places in range(1, 6):
            for saying in some_sayings(places, 30, 1440 + places):
                table = table_by(places, saying)
                if len(set(table)) == 2:
                    case = case_by(table)
                    back = saying_of(case, talk_of(case, saying))
                    self.assertEqual(table_by(places, back), table)
                    self.assertLessEqual(leaves(back), leaves(saying))
                    self.assertLessEqual(deep(back), deep(saying))


class TheLeast(unittest.TestCase):
    def test_of_talks_and_of_sayings(self):
        for rule, by in itertools.product(RULES, BOTH):
            for places in (1, 2, 3):
                for table, number, saying in catalogue(places, rule, by)[::1 if places < 3 else 7]:
                    case = case_by(table)
                    told, talk = least(case, rule, by)
                    self.assertEqual(told, number)
                    self.assertIs(lets_by(case, rule, talk_of(case, saying)), True)
                    self.assertEqual({"leaves": talk_leaves, "depth": talk_deep}[by](talk_of(case, saying)), number)
                    self.assertEqual(table_by(places, saying_of(case, talk)), table)

    def test_no_paper_shows_more(self):
        chance = random.Random(2)
        for rule, box in grown(1450, 8, 8):
            case = as_case(box)
            numbers = [least(case, rule, by)[0] for by in BOTH]
            floors, steps = floors_of(case, rule), steps_of(case, rule)
            self.assertIs(floors_hold(case, rule, floors), True)
            self.assertIs(steps_hold(case, rule, steps), True)
            self.assertEqual(shown(rule, box, ("floors", floors))[0], numbers[0])
            self.assertEqual(shown(rule, box, ("steps", steps))[1], numbers[1])
            papers = [("one",), many_pairs(rule, box), even_sums(rule, box), ("edges",) + box, ("floors", floors),
                      ("steps", steps)]
            if not common(rule, box):
                papers.append(("tries", [(("floors", floors_of(as_case(first), rule)),
                                          ("steps", steps_of(as_case(second), rule)))
                                         for hand, first, second in partings(box)]))
            talks = [a_let_by_talk(rule, box, chance) for _ in range(4)]
            talks += [least(case, rule, by)[1] for by in BOTH]
            for paper, talk in itertools.product(papers, talks):
                told = shown(rule, box, paper)
                self.assertLessEqual(told[0], talk_leaves(talk))
                self.assertLessEqual(told[1], talk_deep(talk))


class TurnedAbout(unittest.TestCase):
    def test_carried_along_and_the_least(self):
        chance = random.Random(3)
        for rule, box in grown(1470, 4, 7):
            case = as_case(box)
            places = case[0]
            talk = a_let_by_talk(rule, box, chance)
            some = tuple(place for place in range(places) if chance.random() < 0.5)
            order = tuple(chance.sample(range(places), places))
            saying = saying_of(case, talk)
            turned = [(exchanged_case(case, order), exchanged_talk(talk, order), exchanged_saying(saying, order), rule),
                      (flipped_case(case, some), flipped_talk(talk, some), flipped_saying(saying, some), "any"),
                      (swapped_case(case), swapped_talk(talk), against(saying), "any")]
            for other, carried, said, still in turned:
                self.assertIs(lets_by(other, still, carried), True)
                self.assertIs(parts(other, said), True)
                for by in BOTH:
                    self.assertEqual(least(other, still, by)[0], least(case, still, by)[0])
            for place, bit in itertools.product(range(places), (0, 1)):
                if all(any(word[place] == bit for word in side) for side in box) and places > 1:
                    other = fixed_case(case, place, bit)
                    self.assertIs(lets_by(other, rule, fixed_talk(talk, place, bit)), True)
                    for by in BOTH:
                        self.assertLessEqual(least(other, rule, by)[0], least(case, rule, by)[0])

    def test_put_together(self):
        tables = [(0, 1), (1, 0), (0, 1, 1, 0), (0, 0, 0, 1), (1, 0, 1, 1)]
        inner = {table: (least(case_by(table), "any", "depth")[1], by_yes(case_by(table))) for table in tables}
        for case in all_small_cases(2):
            number, talk = least(case, "any", "depth")
            for some in itertools.product(tables, repeat=2):
                whole = put_case(case, list(some))
                told = put_talk(case, talk, list(some), [inner[table][0] for table in some])
                self.assertIs(lets_by(whole, "any", told), True)
                self.assertLessEqual(talk_deep(told), number + max(talk_deep(inner[table][0]) for table in some))
                counts = [len(table).bit_length() - 1 for table in some]
                for saying in (by_yes(case), by_no(case)):
                    self.assertIs(parts(whole, put_saying(saying, counts, [inner[table][1] for table in some])), True)


class ReadBack(unittest.TestCase):
    def test_all_that_is_written(self):
        for places in range(1, 6):
            for case in some_cases(places, 10, 1500 + places):
                self.assertEqual(read_case(f"{show_words(case[1])} {show_words(case[2])}"), case)
                for saying in (by_yes(case), by_no(case)):
                    talk = talk_of(case, saying)
                    self.assertEqual(read_saying(places, show_saying(saying)), saying)
                    self.assertEqual(read_talk(places, show_talk(talk)), talk)
                    self.assertEqual(read_talk(places, show_talk(cut(case, talk))), cut(case, talk))
                    self.assertEqual(read_table(show_table(table_by(places, saying))), table_by(places, saying))


def lists_in(thing):
    """All lists in a told thing."""
    found = [thing] if type(thing) is list else []
    if type(thing) in (tuple, list):
        for part in thing:
            found += lists_in(part)
    return found


class AskersOwn(unittest.TestCase):
    """What is told is plain, each list in it a new one; what is handed in stays as it was."""

    def asked(self):
        talk = talk_of(EXCLUSIVE, by_yes(EXCLUSIVE))
        box = EXCLUSIVE[1:]
        return [
            (all_words, 3), (pairs_in, EXCLUSIVE), (case_of, 2, [(1, 0), (0, 1)], [(1, 1), (0, 0)]),
            (spoken, talk, (0, 1), (1, 1)), (ends_of, EXCLUSIVE, talk), (common, "any", (((0, 1),), ((1, 0),))),
            (squares, EXCLUSIVE, "any"), (many_pairs, "any", box), (even_sums, "any", box), (partings, box),
            (boxes, EXCLUSIVE), (floors_of, EXCLUSIVE, "any"), (steps_of, EXCLUSIVE, "any"),
            (least, LEAST_TWO, "rising", "leaves"), (catalogue, 2, "any", "depth"), (catalogue, 2, "rising", "leaves"),
            (put_case, EXCLUSIVE, [(0, 1), (0, 1, 1, 0)]),
            (put_saying, ("and", ("is", 0, 1), ("is", 1, 0)), [1, 2], [("is", 0, 0), ("or", ("is", 0, 1), ("is", 1, 1))]),
            (put_talk, EXCLUSIVE, talk, [(0, 1), (0, 1, 1, 0)], [("end", 0), talk]),
            (shown, "any", box, ("floors", floors_of(EXCLUSIVE, "any"))),
            (shown, "any", box, many_pairs("any", box)), (floors_hold, EXCLUSIVE, "any", floors_of(EXCLUSIVE, "any")),
        ]

    def test_handed_in_stays(self):
        for ask, *handed in self.asked():
            before = copy.deepcopy(handed)
            told = ask(*handed)
            self.assertTrue(strictly(handed, before), ask)
            kept = copy.deepcopy(told)
            for each in lists_in(handed)[1:]:
                each.clear()
            self.assertTrue(strictly(told, kept), ask)
            self.assertTrue(strictly(ask(*before), kept), ask)

    def test_each_list_is_new(self):
        for ask, *handed in self.asked():
            told, other = ask(*copy.deepcopy(handed)), ask(*handed)
            self.assertTrue(is_plain(told), ask)
            kept = copy.deepcopy(other)
            every = lists_in(told)
            self.assertEqual(len({id(each) for each in every}), len(every), ask)
            self.assertFalse({id(each) for each in every} & {id(each) for each in lists_in(other) + lists_in(handed)})
            for each in every:
                each.reverse()
                each.append(None)
            self.assertTrue(strictly(other, kept), ask)
            self.assertTrue(strictly(ask(*handed), kept), ask)

    def test_the_same_whatever_was_asked_or_refused_between(self):
        asked = self.asked()
        before = [copy.deepcopy(ask(*handed)) for ask, *handed in asked]
        for case in all_small_cases(2):
            for ask in (lambda: least(case, "rising", "leaves"), lambda: talk_of(case, ("is", 0, 1)),
                        lambda: saying_of(case, ("end", 0)), lambda: fixed_case(case, 0, 1),
                        lambda: read_case("01 01"), lambda: put_case(case, [(0, 0), (1, 1)])):
                try:
                    ask()
                except TalkError:
                    pass
        for (ask, *handed), right in reversed(list(zip(asked, before))):
            self.assertTrue(strictly(ask(*handed), right), ask)


class FewWords(unittest.TestCase):
    def test_all_cases_of_two_places(self):
        """Everything once over for the smallest questions."""
        for case in all_small_cases(1) + all_small_cases(2):
            for rule in RULES:
                if not all_parted(rule, case[1:]):
                    continue
                for by in BOTH:
                    number, talk = least(case, rule, by)
                    saying = saying_of(case, talk)
                    self.assertEqual({"leaves": leaves, "depth": deep}[by](saying), number)
                    self.assertTrue(all(value_plainly(saying, word) == 1 for word in case[1]))
                    self.assertTrue(all(value_plainly(saying, word) == 0 for word in case[2]))
                    self.assertTrue(rule == "any" or without_not(saying))
                    tables = [row for row in catalogue(case[0], rule, by) if parts(case, row[2])]
                    self.assertEqual(min(row[1] for row in tables), number)


if __name__ == "__main__":
    unittest.main()
