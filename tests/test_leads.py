import random
import unittest

from tests.samples import (a_let_by_talk, all_small_cases, as_case, is_plain, led, some_boxes, some_cases,
                           some_rising_boxes, some_sayings, some_talks, value_plainly, words)
from unlikeplace.cases import pairs_in
from unlikeplace.ends import cut, ends_of
from unlikeplace.errors import NoSaying, NoTalk
from unlikeplace.leads import saying_of, talk_of
from unlikeplace.plain import by_no, by_yes, joined
from unlikeplace.sayings import deep, is_saying, leaves, missed, parts, without_not
from unlikeplace.talks import is_talk, lets_by, talk_deep, talk_leaves

CASE = (2, ((0, 1), (1, 0)), ((0, 0), (1, 1)))
LEAST_TWO = (3, tuple(word for word in words(3) if sum(word) >= 2), tuple(word for word in words(3) if sum(word) < 2))
TWO_OF_THREE = ("or", ("and", ("is", 0, 1), ("is", 1, 1)), ("and", ("is", 2, 1), ("or", ("is", 0, 1), ("is", 1, 1))))


def saying_plainly(pairs, talk):
    """By the words of the promise, pair by pair, cutting along the way."""
    if talk[0] == "end":
        bits = {yes[talk[1]] for yes, no in pairs}
        assert len(bits) == 1
        return ("is", talk[1], bits.pop())
    at = {"yes": 0, "no": 1}[talk[0]]
    first = [pair for pair in pairs if pair[at] not in talk[1]]
    second = [pair for pair in pairs if pair[at] in talk[1]]
    if not first:
        return saying_plainly(second, talk[3])
    if not second:
        return saying_plainly(first, talk[2])
    return ({"yes": "or", "no": "and"}[talk[0]], saying_plainly(first, talk[2]), saying_plainly(second, talk[3]))


def parted_by(places, saying, chance):
    """A case that a saying parts, perhaps with words left out; None where there is none."""
    some = [word for word in words(places) if chance.random() < chance.choice((0.6, 1))]
    yes = tuple(word for word in some if value_plainly(saying, word) == 1)
    no = tuple(word for word in some if value_plainly(saying, word) == 0)
    return (places, yes, no) if yes and no else None


def cases_and_sayings(seed, bits=(0, 1)):
    chance = random.Random(seed)
    for places in range(1, 6):
        for saying in some_sayings(places, 60, seed + places, bits):
            case = parted_by(places, saying, chance)
            if case is not None:
                yield case, saying
    if 0 in bits:
        for places in range(1, 6):
            for case in all_small_cases(places) if places < 3 else some_cases(places, 20, seed + places):
                yield case, by_yes(case)
                yield case, by_no(case)


def cases_and_talks(seed):
    """Cases with talks that are let by, for the rule that is told with them."""
    chance = random.Random(seed)
    for places in range(1, 6):
        for box in some_boxes(places, 40, seed + places):
            yield as_case(box), "any", a_let_by_talk("any", box, chance)
        for box in some_rising_boxes(places, 40, seed + places):
            yield as_case(box), "rising", a_let_by_talk("rising", box, chance)


class TalkOf(unittest.TestCase):
    def test_leaves(self):
        for places in range(1, 6):
            for place in range(places):
                for bit in (0, 1):
                    case = (places, tuple(word for word in words(places) if word[place] == bit),
                            tuple(word for word in words(places) if word[place] != bit))
                    self.assertEqual(talk_of(case, ("is", place, bit)), ("end", place))

    def test_or_and_and(self):
        either = (2, ((0, 1), (1, 0), (1, 1)), ((0, 0),))
        self.assertEqual(talk_of(either, ("or", ("is", 0, 1), ("is", 1, 1))),
                         ("yes", ((0, 1),), ("end", 0), ("end", 1)))
        self.assertEqual(talk_of(either, ("or", ("is", 1, 1), ("is", 0, 1))),
                         ("yes", ((1, 0),), ("end", 1), ("end", 0)))
        both = (2, ((1, 1),), ((0, 0), (0, 1), (1, 0)))
        self.assertEqual(talk_of(both, ("and", ("is", 0, 1), ("is", 1, 1))),
                         ("no", ((1, 0),), ("end", 0), ("end", 1)))
        self.assertEqual(talk_of(both, ("and", ("is", 1, 1), ("is", 0, 1))),
                         ("no", ((0, 1),), ("end", 1), ("end", 0)))

    def test_one_within_another(self):
        saying = ("or", ("and", ("is", 0, 1), ("is", 1, 0)), ("and", ("is", 0, 0), ("is", 1, 1)))
        self.assertEqual(talk_of(CASE, saying),
                         ("yes", ((0, 1),), ("no", ((1, 1),), ("end", 0), ("end", 1)),
                          ("no", ((0, 0),), ("end", 0), ("end", 1))))

    def test_says_are_of_all_words_of_the_case(self):
        end = ("end", 0)
        # No yes word comes to the inner turns.
        case = (2, ((1, 0), (1, 1)), ((0, 0), (0, 1)))
        nothing = ("and", ("is", 1, 0), ("is", 1, 1))
        saying = ("or", ("is", 0, 1), ("or", nothing, ("and", ("is", 0, 1), ("is", 1, 1))))
        inner = ("yes", ((1, 0), (1, 1)), ("no", ((0, 0),), ("end", 1), ("end", 1)), ("no", (), end, ("end", 1)))
        self.assertEqual(talk_of(case, saying), ("yes", (), end, inner))

    def test_says_may_be_none(self):
        case = (1, ((1,),), ((0,),))
        for join, hand in (("or", "yes"), ("and", "no")):
            self.assertEqual(talk_of(case, (join, ("is", 0, 1), ("is", 0, 1))), (hand, (), ("end", 0), ("end", 0)))

    def test_many(self):
        for case, saying in cases_and_sayings(1):
            told = talk_of(case, saying)
            self.assertEqual(told, led(case, saying))
            self.assertTrue(is_plain(told))
            self.assertIs(is_talk(case[0], told), True)
            self.assertIs(lets_by(case, "any", told), True)
            self.assertEqual((talk_deep(told), talk_leaves(told)), (deep(saying), leaves(saying)))
            if without_not(saying):
                self.assertIs(lets_by(case, "rising", told), True)

    def test_without_not(self):
        many = 0
        for case, saying in cases_and_sayings(2, (1,)):
            many += 1
            self.assertIs(lets_by(case, "rising", talk_of(case, saying)), True)
        self.assertGreater(many, 200)
        self.assertIs(lets_by(LEAST_TWO, "rising", talk_of(LEAST_TWO, TWO_OF_THREE)), True)

    def test_with_not_it_may_fail_by_rising(self):
        saying = ("is", 0, 0)
        case = (1, ((0,),), ((1,),))
        self.assertIs(lets_by(case, "any", talk_of(case, saying)), True)
        self.assertIs(lets_by(case, "rising", talk_of(case, saying)), False)

    def refused(self, case, saying):
        with self.assertRaises(NoSaying) as caught:
            talk_of(case, saying)
        self.assertIs(type(caught.exception), NoSaying)

    def test_refused_by_a_yes_word_and_by_a_no_word(self):
        self.refused(CASE, ("and", ("is", 0, 1), ("is", 1, 0)))
        self.refused(CASE, ("or", ("is", 0, 1), ("is", 1, 1)))
        self.refused(CASE, ("is", 0, 1))
        self.refused((1, ((1,),), ((0,),)), ("is", 0, 0))
        # Just one word stands against it, a yes word and a no word.
        self.refused((2, ((0, 0), (1, 0), (1, 1)), ((0, 1),)), ("is", 0, 1))
        self.refused((2, ((1, 0),), ((0, 0), (0, 1), (1, 1))), ("is", 0, 1))

    def test_refused_just_where_it_does_not_part(self):
        kinds = {}
        for places in range(1, 5):
            for case in all_small_cases(places) if places < 3 else some_cases(places, 20, 40 + places):
                for saying in some_sayings(places, 30, 50 + places):
                    wrong = missed(case, saying)
                    kinds[wrong and wrong[0]] = kinds.get(wrong and wrong[0], 0) + 1
                    if wrong is None:
                        self.assertEqual(talk_of(case, saying), led(case, saying))
                    else:
                        self.refused(case, saying)
        self.assertEqual(len(kinds), 3)
        self.assertGreater(min(kinds.values()), 20)

    def test_very_deep(self):
        case = (2, ((0, 1), (1, 1)), ((0, 0), (1, 0)))
        saying = ("is", 1, 1)
        for number in range(2000):
            saying = joined("and" if number % 2 else "or", [saying, ("is", 1, 1)])
        told = talk_of(case, saying)
        self.assertEqual((talk_deep(told), talk_leaves(told)), (2000, 2001))
        self.assertIs(lets_by(case, "rising", told), True)
        self.assertEqual(saying_of(case, told), ("is", 1, 1))


class SayingOf(unittest.TestCase):
    def test_ends(self):
        for places in range(1, 6):
            for place in range(places):
                low = tuple(word for word in words(places) if word[place] == 0)
                high = tuple(word for word in words(places) if word[place] == 1)
                self.assertEqual(saying_of((places, low, high), ("end", place)), ("is", place, 0))
                self.assertEqual(saying_of((places, high, low), ("end", place)), ("is", place, 1))

    def test_the_hands(self):
        either = (2, ((0, 1), (1, 0), (1, 1)), ((0, 0),))
        self.assertEqual(saying_of(either, ("yes", ((0, 1),), ("end", 0), ("end", 1))),
                         ("or", ("is", 0, 1), ("is", 1, 1)))
        both = (2, ((1, 1),), ((0, 0), (0, 1), (1, 0)))
        self.assertEqual(saying_of(both, ("no", ((1, 0),), ("end", 0), ("end", 1))),
                         ("and", ("is", 0, 1), ("is", 1, 1)))

    def test_one_within_another(self):
        talk = ("no", ((1, 1),), ("yes", ((0, 1),), ("end", 0), ("end", 1)), ("yes", ((0, 1),), ("end", 1), ("end", 0)))
        self.assertEqual(saying_of(CASE, talk),
                         ("and", ("or", ("is", 0, 1), ("is", 1, 1)), ("or", ("is", 1, 0), ("is", 0, 0))))

    def test_branches_that_no_pair_comes_to(self):
        talk = talk_of(CASE, by_yes(CASE))
        right = saying_of(CASE, talk)
        self.assertEqual(right, by_yes(CASE))
        wrong = ("end", 0)
        for wrapped in (("yes", (), talk, wrong), ("yes", CASE[2], talk, wrong), ("yes", CASE[1], wrong, talk),
                        ("no", (), talk, wrong), ("no", CASE[1], talk, wrong), ("no", CASE[2], wrong, talk),
                        ("no", tuple(words(2)), wrong, ("yes", tuple(words(2)), wrong, talk))):
            self.assertEqual(saying_of(CASE, wrapped), right)
        twice = ("yes", talk[1], talk, talk)
        self.assertEqual(saying_of(CASE, twice), right)

    def check(self, case, talk):
        told = saying_of(case, talk)
        self.assertEqual(told, saying_plainly(pairs_in(case), talk))
        self.assertTrue(is_plain(told))
        self.assertIs(is_saying(case[0], told), True)
        self.assertIs(parts(case, told), True)
        kept = cut(case, talk)
        self.assertEqual((deep(told), leaves(told)), (talk_deep(kept), talk_leaves(kept)))
        self.assertEqual(saying_of(case, kept), told)
        if lets_by(case, "rising", talk):
            self.assertIs(without_not(told), True)
        return kept != talk

    def test_many(self):
        cuts = 0
        many = 0
        for case, rule, talk in cases_and_talks(3):
            self.assertIs(lets_by(case, rule, talk), True)
            cuts += self.check(case, talk)
            many += 1
        self.assertGreater(cuts, 50)
        self.assertGreater(many - cuts, 50)

    def test_without_not(self):
        for case, rule, talk in cases_and_talks(4):
            if rule == "rising":
                self.assertIs(without_not(saying_of(case, talk)), True)
        self.assertIs(without_not(saying_of(LEAST_TWO, talk_of(LEAST_TWO, TWO_OF_THREE))), True)

    def test_let_by_by_any_alone_is_enough(self):
        self.assertEqual(saying_of((1, ((0,),), ((1,),)), ("end", 0)), ("is", 0, 0))

    def refused(self, case, talk):
        with self.assertRaises(NoTalk) as caught:
            saying_of(case, talk)
        self.assertIs(type(caught.exception), NoTalk)

    def test_refused(self):
        self.refused(CASE, ("end", 0))
        self.refused(CASE, ("end", 1))
        self.refused(CASE, ("yes", ((0, 1),), ("end", 0), ("end", 1)))
        # One pair alone ends wrongly.
        self.refused((2, ((1, 0), (1, 1)), ((0, 0), (0, 1))), ("no", ((0, 1),), ("end", 0), ("end", 1)))

    def test_refused_just_where_it_is_not_let_by(self):
        many = {True: 0, False: 0}
        for places in range(1, 5):
            for case in all_small_cases(places) if places < 3 else some_cases(places, 20, 60 + places):
                for talk in some_talks(places, 30, 70 + places):
                    good = lets_by(case, "any", talk)
                    many[good] += 1
                    if good:
                        self.check(case, talk)
                    else:
                        self.refused(case, talk)
        self.assertGreater(min(many.values()), 50)


class ThereAndBack(unittest.TestCase):
    def test_sayings(self):
        for case, saying in cases_and_sayings(5):
            talk = talk_of(case, saying)
            told = saying_of(case, talk)
            self.assertIs(parts(case, told), True)
            self.assertLessEqual(deep(told), deep(saying))
            self.assertLessEqual(leaves(told), leaves(saying))
            if without_not(saying):
                self.assertIs(without_not(told), True)
            again = talk_of(case, told)
            self.assertIs(lets_by(case, "any", again), True)
            self.assertTrue(all(yes and no for bits, place, yes, no in ends_of(case, cut(case, again))))

    def test_the_same_again_whatever_was_asked_between(self):
        asked = list(cases_and_sayings(6))
        before = [talk_of(case, saying) for case, saying in asked]
        back = [saying_of(case, talk) for (case, saying), talk in zip(asked, before)]
        for (case, saying), talk, other in reversed(list(zip(asked, before, back))):
            self.assertEqual(saying_of(case, talk), other)
            self.assertEqual(talk_of(case, saying), talk)


if __name__ == "__main__":
    unittest.main()
