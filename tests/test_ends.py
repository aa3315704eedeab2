import itertools
import unittest

from tests.samples import all_small_cases, is_plain, led, some_cases, some_talks, words
from unlikeplace.cases import pairs_in
from unlikeplace.ends import cut, ends_of
from unlikeplace.plain import by_no, by_yes
from unlikeplace.talks import fault, is_talk, lets_by, spoken, talk_deep, talk_leaves

CASE = (2, ((0, 1), (1, 0)), ((0, 0), (1, 1)))
ONE, OTHER = ("end", 0), ("end", 1)


def ends_plainly(talk, yes, no, bits):
    if talk[0] == "end":
        return [(bits, talk[1], yes, no)]
    told = []
    for bit in (0, 1):
        stay = [word for word in words(len(yes[0] if yes else no[0] if no else ())) if (word in talk[1]) == bool(bit)]
        on_yes = tuple(word for word in yes if talk[0] == "no" or word in stay)
        on_no = tuple(word for word in no if talk[0] == "yes" or word in stay)
        told += ends_plainly(talk[2 + bit], on_yes, on_no, bits + [bit])
    return told


def cut_plainly(pairs, talk):
    """By the words of the promise, pair by pair."""
    if talk[0] == "end":
        return talk
    at = {"yes": 0, "no": 1}[talk[0]]
    first = [pair for pair in pairs if pair[at] not in talk[1]]
    second = [pair for pair in pairs if pair[at] in talk[1]]
    if not first:
        return cut_plainly(second, talk[3])
    if not second:
        return cut_plainly(first, talk[2])
    return (talk[0], talk[1], cut_plainly(first, talk[2]), cut_plainly(second, talk[3]))


def cases_and_talks(seed):
    for places in range(1, 6):
        cases = all_small_cases(places) if places == 1 else some_cases(places, 16, seed + places)
        for case in cases:
            for talk in some_talks(places, 18, seed + 10 * places):
                yield case, talk
            for saying in (by_yes(case), by_no(case)):
                yield case, led(case, saying)


class EndsOf(unittest.TestCase):
    def test_written_out(self):
        self.assertEqual(ends_of(CASE, OTHER), [([], 1, CASE[1], CASE[2])])
        talk = ("yes", ((0, 1), (1, 1)), ("end", 1), ("no", ((0, 0), (1, 1)), ("end", 1), ("end", 0)))
        self.assertEqual(ends_of(CASE, talk), [
            ([0], 1, ((1, 0),), ((0, 0), (1, 1))),
            ([1, 0], 1, ((0, 1),), ()),
            ([1, 1], 0, ((0, 1),), ((0, 0), (1, 1)))])

    def test_none_of_one_sort_and_of_both(self):
        talk = ("yes", (), ("no", (), ONE, OTHER), ("no", (), ONE, OTHER))
        self.assertEqual(ends_of(CASE, talk), [
            ([0, 0], 0, CASE[1], CASE[2]), ([0, 1], 1, CASE[1], ()),
            ([1, 0], 0, (), CASE[2]), ([1, 1], 1, (), ())])

    def test_the_other_hand_goes_either_way(self):
        says = ((0, 1), (1, 1))
        for bits, place, yes, no in ends_of(CASE, ("yes", says, ONE, OTHER)):
            self.assertEqual((len(yes), no), (1, CASE[2]))
        for bits, place, yes, no in ends_of(CASE, ("no", says, ONE, OTHER)):
            self.assertEqual((yes, len(no)), (CASE[1], 1))

    def test_many(self):
        for case, talk in cases_and_talks(1):
            told = ends_of(case, talk)
            self.assertIs(type(told), list)
            self.assertEqual(told, ends_plainly(talk, case[1], case[2], []))
            self.assertTrue(is_plain(told))
            self.assertEqual(len(told), talk_leaves(talk))
            self.assertEqual([end[0] for end in told], sorted(end[0] for end in told))

    def test_just_their_pairs_come_there_and_each_pair_to_one(self):
        for case, talk in cases_and_talks(2):
            come = {}
            for bits, place, yes, no in ends_of(case, talk):
                for pair in itertools.product(yes, no):
                    self.assertNotIn(pair, come)
                    come[pair] = (bits, place)
            self.assertEqual(sorted(come), pairs_in(case))
            for yes, no in come:
                self.assertEqual(spoken(talk, yes, no), come[yes, no])

    def test_new_lists_each_time(self):
        talk = ("yes", ((0, 1),), ("no", ((0, 0),), ONE, OTHER), ONE)
        kept = ends_of(CASE, talk)
        told = ends_of(CASE, talk)
        for end in told:
            end[0].append(5)
        self.assertEqual([end[0] for end in told], [[0, 0, 5], [0, 1, 5], [1, 5]])
        told.clear()
        self.assertEqual(ends_of(CASE, talk), kept)
        self.assertEqual([end[0] for end in kept], [[0, 0], [0, 1], [1]])
        ends_of(CASE, ONE)[0][0].append(5)
        self.assertEqual(ends_of(CASE, ONE)[0][0], [])


class Cut(unittest.TestCase):
    def test_an_end_is_itself(self):
        self.assertEqual(cut(CASE, ONE), ONE)
        self.assertEqual(cut(CASE, OTHER), OTHER)

    def test_none_with_first_or_second(self):
        for hand, own in (("yes", CASE[1]), ("no", CASE[2])):
            self.assertEqual(cut(CASE, (hand, own, ONE, OTHER)), OTHER)
            self.assertEqual(cut(CASE, (hand, tuple(words(2)), ONE, OTHER)), OTHER)
            self.assertEqual(cut(CASE, (hand, (), ONE, OTHER)), ONE)
        self.assertEqual(cut(CASE, ("yes", CASE[2], ONE, OTHER)), ONE)
        self.assertEqual(cut(CASE, ("no", CASE[1], ONE, OTHER)), ONE)

    def test_hand_and_says_as_they_were(self):
        for hand in ("yes", "no"):
            talk = (hand, ((0, 0), (0, 1)), ONE, OTHER)
            self.assertEqual(cut(CASE, talk), talk)

    def test_further_within(self):
        inner = ("yes", ((0, 1),), ONE, OTHER)
        talk = ("yes", ((0, 1),), inner, inner)
        self.assertEqual(cut(CASE, talk), inner)
        self.assertEqual(cut(CASE, ("no", CASE[2], inner, talk)), inner)
        self.assertEqual(cut(CASE, ("no", (), talk, inner)), inner)
        by_no_hand = ("no", ((1, 1),), talk, inner)
        self.assertEqual(cut(CASE, by_no_hand), ("no", ((1, 1),), inner, inner))
        self.assertEqual(cut(CASE, ("no", ((1, 1),), by_no_hand, ("no", ((0, 0),), OTHER, inner))),
                         ("no", ((1, 1),), inner, OTHER))

    def test_all_talks_of_one_turn_for_all_cases_of_two_places(self):
        some = [says for size in range(5) for says in itertools.combinations(words(2), size)]
        for hand, says in itertools.product(("yes", "no"), some):
            for case in all_small_cases(2):
                talk = (hand, says, ONE, OTHER)
                self.assertEqual(cut(case, talk), cut_plainly(pairs_in(case), talk))

    def test_many(self):
        for case, talk in cases_and_talks(3):
            told = cut(case, talk)
            self.assertEqual(told, cut_plainly(pairs_in(case), talk))
            self.assertTrue(is_plain(told))
            self.assertTrue(is_talk(case[0], told))
            for bits, place, yes, no in ends_of(case, told):
                self.assertTrue(yes and no)
            self.assertLessEqual(talk_leaves(told), talk_leaves(talk))
            self.assertLessEqual(talk_deep(told), talk_deep(talk))
            self.assertEqual(cut(case, told), told)
            for rule in ("any", "rising"):
                self.assertEqual(fault(case, rule, told), fault(case, rule, talk))

    def test_let_by_stays_let_by(self):
        for places in range(1, 6):
            for case in some_cases(places, 10, 90 + places):
                talk = led(case, by_yes(case))
                self.assertIs(lets_by(case, "any", cut(case, ("no", case[1], talk, ONE))), True)

    def test_very_deep(self):
        talk = ONE
        for number in range(3000):
            talk = ("yes", CASE[1], OTHER, talk) if number % 2 else ("no", (), talk, OTHER)
        self.assertEqual(cut(CASE, talk), ONE)
        self.assertEqual(len(ends_of(CASE, talk)), 3001)


class HandedIn(unittest.TestCase):
    def test_the_same_again(self):
        asked = list(cases_and_talks(4))
        before = [(cut(case, talk), ends_of(case, talk)) for case, talk in asked]
        for (case, talk), right in reversed(list(zip(asked, before))):
            self.assertEqual((cut(case, talk), ends_of(case, talk)), right)


if __name__ == "__main__":
    unittest.main()
