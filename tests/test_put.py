import copy
import itertools
import random
import unittest

from tests.below import strictly
from tests.samples import (a_let_by_talk, a_saying, a_talk, all_small_cases, as_case, is_plain, looks_like_saying,
                           looks_like_talk, parting_places, some_boxes, value_plainly, words)
from unlikeplace.cases import case_by, case_of
from unlikeplace.ends import ends_of
from unlikeplace.errors import NoCase, NoTalk
from unlikeplace.leads import saying_of, talk_of
from unlikeplace.leasts import least
from unlikeplace.plain import by_no, by_yes
from unlikeplace.put import put_case, put_saying, put_talk
from unlikeplace.sayings import deep, leaves, parts, table_by
from unlikeplace.talks import lets_by, spoken, talk_deep, talk_leaves

BOTH_ONE, EITHER, UNLIKE = (0, 0, 0, 1), (0, 1, 1, 1), (0, 1, 1, 0)
SAME, OTHER = (0, 1), (1, 0)
CASE = (2, ((0, 1), (1, 0)), ((0, 0),))
EXCLUSIVE = (2, ((0, 1), (1, 0)), ((0, 0), (1, 1)))


def shapes(most=5):
    """All lists of numbers of places, at most so many together."""
    return [counts for size in range(1, most + 1) for counts in itertools.product(range(1, most + 1), repeat=size)
            if sum(counts) <= most]


def blocks(word, counts):
    told, at = [], 0
    for count in counts:
        told.append(word[at:at + count])
        at += count
    return told


def inner_word(word, tables):
    counts = [len(table).bit_length() - 1 for table in tables]
    return tuple(dict(zip(words(count), table))[block]
                 for count, table, block in zip(counts, tables, blocks(word, counts)))


def a_table(places, chance, constant=False):
    while True:
        table = tuple(chance.choice((0, 1)) for _ in range(2 ** places))
        if constant or len(set(table)) == 2:
            return table


def a_case(places, chance):
    return as_case(some_boxes(places, 1, chance.randrange(10 ** 6))[0])


def asked(seed, many=2, constant=False):
    """(case, tables) of all shapes."""
    chance = random.Random(seed)
    for counts in shapes():
        for _ in range(many):
            yield a_case(len(counts), chance), [a_table(count, chance, constant) for count in counts]


class PutCase(unittest.TestCase):
    def refused(self, case, tables):
        with self.assertRaises(NoCase) as caught:
            put_case(case, tables)
        self.assertIs(type(caught.exception), NoCase)

    def test_written_out(self):
        self.assertEqual(put_case((1, ((1,),), ((0,),)), [UNLIKE]), EXCLUSIVE)
        self.assertEqual(put_case((1, ((0,),), ((1,),)), [UNLIKE]), (2, EXCLUSIVE[2], EXCLUSIVE[1]))
        self.assertEqual(put_case(EXCLUSIVE, [SAME, SAME]), EXCLUSIVE)
        self.assertEqual(put_case(CASE, [OTHER, SAME]), (2, ((0, 0), (1, 1)), ((1, 0),)))
        # The first block has one place, the second one two.
        self.assertEqual(put_case((2, ((1, 1),), ((0, 1),)), [SAME, BOTH_ONE]), (3, ((1, 1, 1),), ((0, 1, 1),)))
        # The other way about.
        self.assertEqual(put_case((2, ((1, 1),), ((1, 0),)), [BOTH_ONE, SAME]), (3, ((1, 1, 1),), ((1, 1, 0),)))

    def test_many(self):
        told_and_refused = {True: 0, False: 0}
        for case, tables in itertools.chain(asked(1, 4), asked(2, 6, True)):
            places = sum(len(table).bit_length() - 1 for table in tables)
            yes = [word for word in words(places) if inner_word(word, tables) in case[1]]
            no = [word for word in words(places) if inner_word(word, tables) in case[2]]
            told_and_refused[bool(yes and no)] += 1
            if yes and no:
                told = put_case(case, tables)
                self.assertTrue(strictly(told, case_of(places, yes, no)))
                self.assertTrue(is_plain(told))
            else:
                self.refused(case, tables)
        self.assertGreater(min(told_and_refused.values()), 10)

    def test_five_places_and_more(self):
        three, four = (0, 1) * 4, (0, 1) * 8
        for tables in ([three, EITHER], [EITHER, three], [SAME, four], [four, OTHER]):
            self.assertEqual(put_case(CASE, tables)[0], 5)
        self.assertEqual(put_case((1, ((1,),), ((0,),)), [(0, 1) * 16])[0], 5)
        for tables in ([three, three], [four, EITHER], [EITHER, four], [SAME, (0, 1) * 16], [(0, 1) * 16, SAME],
                       [(0, 1) * 16, (1, 0) * 16], [(0,) * 16, (0,) * 16]):
            self.refused(CASE, tables)
        five = (5, ((0,) * 5,), ((1,) * 5,))
        self.assertEqual(put_case(five, [SAME] * 5), five)
        self.refused(five, [SAME] * 4 + [EITHER])
        self.refused(five, [(0, 1) * 16] * 5)

    def test_none_of_one_sort(self):
        self.refused(CASE, [(0, 0), (0, 0)])
        self.refused(CASE, [(1, 1), (1, 1)])
        self.refused(CASE, [(1, 1), SAME])
        self.refused((2, CASE[2], CASE[1]), [SAME, (1, 1, 1, 1)])
        self.refused((1, ((1,),), ((0,),)), [(0,) * 8])
        # Always 0 at one block, and still some of both sorts.
        self.assertEqual(put_case(CASE, [(0, 0), SAME]), (2, ((0, 1), (1, 1)), ((0, 0), (1, 0))))

    def test_untouched(self):
        tables = [BOTH_ONE, SAME]
        before = list(tables)
        told = put_case(CASE, tables)
        self.assertEqual(tables, before)
        tables.reverse()
        self.assertEqual(put_case(CASE, before), told)


class PutSaying(unittest.TestCase):
    def test_written_out(self):
        outer = ("and", ("is", 0, 1), ("or", ("is", 1, 0), ("is", 1, 1)))
        inner = [("or", ("is", 0, 1), ("is", 1, 0)), ("and", ("is", 0, 0), ("is", 1, 1))]
        self.assertEqual(put_saying(outer, [2, 2], inner),
                         ("and", ("or", ("is", 0, 1), ("is", 1, 0)),
                          ("or", ("or", ("is", 2, 1), ("is", 3, 0)), ("and", ("is", 2, 0), ("is", 3, 1)))))
        self.assertEqual(put_saying(("is", 0, 1), [1], [("is", 0, 0)]), ("is", 0, 0))
        self.assertEqual(put_saying(("is", 0, 0), [1], [("is", 0, 0)]), ("is", 0, 1))
        # The counts tell how far places are moved, not the places that the inner sayings have.
        self.assertEqual(put_saying(("is", 1, 1), [3, 2], [("is", 0, 1), ("is", 0, 1)]), ("is", 3, 1))
        self.assertEqual(put_saying(("is", 2, 0), [1, 3, 1], [("is", 0, 1)] * 3), ("is", 4, 0))

    def test_many(self):
        chance = random.Random(3)
        for counts in shapes():
            for _ in range(3):
                outer = a_saying(len(counts), 3, chance)
                inner = [a_saying(count, 3, chance) for count in counts]
                told = put_saying(outer, list(counts), inner)
                self.assertTrue(looks_like_saying(sum(counts), told) and is_plain(told))
                for word in words(sum(counts)):
                    between = tuple(value_plainly(each, block) for each, block in zip(inner, blocks(word, counts)))
                    self.assertEqual(value_plainly(told, word), value_plainly(outer, between))
                self.assertLessEqual(deep(told), deep(outer) + max(deep(each) for each in inner))

    def test_it_parts_the_case_put_together(self):
        for case, tables in asked(4, 3):
            inner = [by_yes(case_by(table)) for table in tables]
            counts = [len(table).bit_length() - 1 for table in tables]
            for each, table, count in zip(inner, tables, counts):
                self.assertEqual(table_by(count, each), table)
            for outer in (by_yes(case), by_no(case)):
                told = put_saying(outer, counts, inner)
                self.assertIs(parts(put_case(case, tables), told), True)

    def test_untouched(self):
        counts, inner = [2, 1], [("or", ("is", 0, 1), ("is", 1, 0)), ("is", 0, 1)]
        before = copy.deepcopy((counts, inner))
        told = put_saying(("and", ("is", 0, 1), ("is", 1, 0)), counts, inner)
        self.assertTrue(strictly((counts, inner), before))
        kept = copy.deepcopy(told)
        counts.clear()
        inner.reverse()
        self.assertEqual(told, kept)
        self.assertEqual(put_saying(("and", ("is", 0, 1), ("is", 1, 0)), *before), kept)


def let_by_plainly(case, talk):
    return all(spoken(talk, yes, no)[1] in parting_places("any", yes, no)
               for yes, no in itertools.product(case[1], case[2]))


def most_leaves(case, talk, inner):
    return sum(talk_leaves(inner[place]) for bits, place, yes, no in ends_of(case, talk) if yes and no)


class PutTalk(unittest.TestCase):
    def refused(self, kind, case, talk, tables, inner):
        with self.assertRaises(kind) as caught:
            put_talk(case, talk, tables, inner)
        self.assertIs(type(caught.exception), kind)

    def check(self, case, talk, tables, inner):
        told = put_talk(case, talk, tables, inner)
        whole = put_case(case, tables)
        self.assertTrue(looks_like_talk(whole[0], told) and is_plain(told))
        self.assertTrue(let_by_plainly(whole, told))
        self.assertIs(lets_by(whole, "any", told), True)
        self.assertLessEqual(talk_deep(told), talk_deep(talk) + max(talk_deep(each) for each in inner))
        self.assertLessEqual(talk_leaves(told), most_leaves(case, talk, inner))

    def test_small_ones(self):
        up, down = (1, ((1,),), ((0,),)), (1, ((0,),), ((1,),))
        unlike = talk_of(EXCLUSIVE, by_yes(EXCLUSIVE))
        for case in (up, down):
            self.check(case, ("end", 0), [SAME], [("end", 0)])
            self.check(case, ("end", 0), [OTHER], [("end", 0)])
            self.check(case, ("end", 0), [UNLIKE], [unlike])
        self.check(EXCLUSIVE, unlike, [SAME, OTHER], [("end", 0), ("end", 0)])
        self.check(EXCLUSIVE, unlike, [UNLIKE, UNLIKE], [unlike, unlike])

    def test_many(self):
        chance = random.Random(5)
        for case, tables in asked(6, 5):
            talk = a_let_by_talk("any", case[1:], chance)
            inner = [a_let_by_talk("any", case_by(table)[1:], chance) for table in tables]
            self.check(case, talk, tables, inner)

    def test_all_small_cases(self):
        chance = random.Random(7)
        tables = [SAME, OTHER, BOTH_ONE, EITHER, UNLIKE, (1, 0, 1, 1)]
        for case in all_small_cases(1) + all_small_cases(2):
            for _ in range(3):
                some = [chance.choice(tables) for _ in range(case[0])]
                self.check(case, a_let_by_talk("any", case[1:], chance), some,
                           [a_let_by_talk("any", case_by(table)[1:], chance) for table in some])

    def test_ends_that_no_pair_reaches_do_not_count(self):
        unlike = talk_of(EXCLUSIVE, by_yes(EXCLUSIVE))
        case = (2, ((1, 0), (1, 1)), ((0, 0),))
        talk = ("no", ((1, 1),), ("end", 0), ("yes", (), ("end", 1), ("end", 1)))
        told = put_talk(case, talk, [SAME, UNLIKE], [("end", 0), unlike])
        self.assertEqual(talk_leaves(told), 1)
        self.check(case, talk, [SAME, UNLIKE], [("end", 0), unlike])

    def test_not_let_by(self):
        unlike = talk_of(EXCLUSIVE, by_yes(EXCLUSIVE))
        good = [("end", 0), unlike]
        self.check(EXCLUSIVE, unlike, [OTHER, UNLIKE], good)
        self.refused(NoTalk, EXCLUSIVE, ("end", 0), [OTHER, UNLIKE], good)
        self.refused(NoTalk, EXCLUSIVE, unlike, [UNLIKE, OTHER], [("end", 0), ("end", 0)])
        self.refused(NoTalk, EXCLUSIVE, unlike, [OTHER, UNLIKE], [("end", 0), ("end", 1)])
        self.refused(NoTalk, EXCLUSIVE, ("end", 1), [OTHER, UNLIKE], [("end", 0), ("end", 1)])
        # Also where no end of the outer one is at its place.
        case = (2, ((1, 0), (1, 1)), ((0, 0), (0, 1)))
        self.check(case, ("end", 0), [SAME, UNLIKE], good)
        self.refused(NoTalk, case, ("end", 0), [SAME, UNLIKE], [("end", 0), ("end", 0)])

    def test_not_let_by_many(self):
        chance = random.Random(8)
        found = {True: 0, False: 0}
        for case, tables in asked(9, 6):
            talks = [a_let_by_talk("any", case[1:], chance)]
            talks += [a_let_by_talk("any", case_by(table)[1:], chance) for table in tables]
            cases = [case] + [case_by(table) for table in tables]
            at = chance.randrange(len(talks))
            talks[at] = a_talk(cases[at][0], 2, chance)
            good = let_by_plainly(cases[at], talks[at])
            found[good] += 1
            if good:
                self.check(case, talks[0], tables, talks[1:])
            else:
                self.refused(NoTalk, case, talks[0], tables, talks[1:])
        self.assertGreater(min(found.values()), 10)

    def test_no_case_ahead_of_no_talk(self):
        unlike = talk_of(EXCLUSIVE, by_yes(EXCLUSIVE))
        wide = ("yes", ((0, 1, 1, 0, 1),), ("end", 4), ("no", ((1, 1, 1, 1, 1),), ("end", 3), ("end", 0)))
        inners = [[("end", 0), ("end", 0)], [("end", 4), ("end", 3)], [wide, ("end", 0)], [wide, wide],
                  [("end", 0), unlike]]
        for outer in (unlike, ("end", 0), ("end", 1)):
            for inner in inners:
                # More than five places together.
                self.refused(NoCase, EXCLUSIVE, outer, [(0, 1) * 4, (0, 1) * 4], inner)
                self.refused(NoCase, EXCLUSIVE, outer, [(0, 1) * 16, SAME], inner)
                # Always 0 or always 1, with and without words of both sorts put together.
                for size, bit in itertools.product((2, 4, 8), (0, 1)):
                    self.refused(NoCase, EXCLUSIVE, outer, [(bit,) * size, SAME], inner)
                    self.refused(NoCase, EXCLUSIVE, outer, [UNLIKE, (bit,) * size], inner)
                    self.refused(NoCase, EXCLUSIVE, outer, [(bit,) * 2, (1 - bit,) * size], inner)
        for inner in (wide, ("end", 0), ("end", 4), unlike):
            for bit in (0, 1):
                self.refused(NoCase, (1, ((1,),), ((0,),)), ("end", 0), [(bit,) * 2], [inner])
        # A place that no end of the outer one is at.
        case = (2, ((1, 0), (1, 1)), ((0, 0), (0, 1)))
        self.assertEqual(put_case(case, [SAME, (1, 1)]), (2, ((1, 0), (1, 1)), ((0, 0), (0, 1))))
        self.refused(NoCase, case, ("end", 0), [SAME, (1, 1)], [("end", 0), ("end", 0)])

    def test_inner_talks_of_other_numbers_of_places(self):
        wide = ("yes", ((0, 1, 1),), ("end", 0), ("end", 2))
        case = (2, ((1, 0), (1, 1)), ((0, 0), (0, 1)))
        self.check(case, ("end", 0), [SAME, SAME], [("end", 0), ("end", 0)])
        for wrong in (wide, ("end", 1), ("no", ((0, 0),), ("end", 0), ("end", 0))):
            self.refused(NoTalk, case, ("end", 0), [SAME, SAME], [wrong, ("end", 0)])
            self.refused(NoTalk, case, ("end", 0), [SAME, SAME], [("end", 0), wrong])

    def test_the_least_adds_at_most(self):
        for case, tables in asked(10, 3):
            whole = put_case(case, tables)
            cases = [case] + [case_by(table) for table in tables]
            if all(len(each[1]) + len(each[2]) <= 8 for each in cases + [whole]):
                depths = [least(each, "any", "depth")[0] for each in cases]
                self.assertLessEqual(least(whole, "any", "depth")[0], depths[0] + max(depths[1:]))

    def test_of_what_was_told(self):
        odd = case_by(tuple(sum(word) % 2 for word in words(2)))
        talk = talk_of(odd, by_no(odd))
        told = put_talk(odd, talk, [UNLIKE, UNLIKE], [talk, talk])
        whole = put_case(odd, [UNLIKE, UNLIKE])
        self.assertEqual(whole, case_by(tuple(sum(word) % 2 for word in words(4))))
        self.check((1, ((1,),), ((0,),)), ("end", 0), [tuple(sum(word) % 2 for word in words(4))], [told])
        self.assertIs(parts(whole, saying_of(whole, told)), True)
        self.assertLessEqual(leaves(saying_of(whole, told)), 16)

    def test_untouched(self):
        unlike = talk_of(EXCLUSIVE, by_yes(EXCLUSIVE))
        tables, inner = [OTHER, UNLIKE], [("end", 0), unlike]
        before = copy.deepcopy((tables, inner))
        told = put_talk(EXCLUSIVE, unlike, tables, inner)
        kept = copy.deepcopy(told)
        self.assertTrue(strictly((tables, inner), before))
        tables.clear()
        inner.clear()
        self.assertEqual(told, kept)
        self.assertEqual(put_talk(EXCLUSIVE, unlike, *before), kept)


if __name__ == "__main__":
    unittest.main()
