import unittest

from tests.samples import ANYTHING, check_told, is_plain, looks_like_word, words
from unlikeplace.words import all_words, height, is_word


class IsWord(unittest.TestCase):
    def test_each_word_for_its_places_alone(self):
        for places in range(1, 6):
            for others in range(1, 6):
                for word in words(others):
                    self.assertIs(is_word(places, word), places == others, (places, word))

    def test_of_anything(self):
        for places in range(1, 6):
            for thing in ANYTHING:
                check_told(self, thing, is_word(places, thing), looks_like_word(places, thing))

    def test_another_thing_in_each_place(self):
        for places in range(1, 6):
            for word in words(places):
                for place in range(places):
                    for thing in ANYTHING:
                        changed = word[:place] + (thing,) + word[place + 1:]
                        right = type(thing) is int and thing in (0, 1)
                        check_told(self, changed, is_word(places, changed), right)

    def test_a_truth_is_no_whole_number(self):
        self.assertIs(is_word(1, (True,)), False)
        self.assertIs(is_word(1, (False,)), False)
        self.assertIs(is_word(2, (1, True)), False)
        self.assertIs(is_word(2, (False, 0)), False)

    def test_only_tuples(self):
        self.assertIs(is_word(2, [0, 1]), False)
        self.assertIs(is_word(2, "01"), False)
        self.assertIs(is_word(2, {0: 0, 1: 1}), False)
        self.assertIs(is_word(1, 1), False)

    def test_there_are_one_to_five_places(self):
        self.assertIs(is_word(0, ()), False)
        self.assertIs(is_word(6, (0,) * 6), False)


class AllWords(unittest.TestCase):
    def test_all_of_them_rising(self):
        for places in range(1, 6):
            told = all_words(places)
            self.assertIs(type(told), list)
            self.assertEqual(told, words(places))
            self.assertEqual(told, sorted(set(told)))
            self.assertEqual(len(told), 2 ** places)
            self.assertTrue(is_plain(told))

    def test_of_two_places(self):
        self.assertEqual(all_words(2), [(0, 0), (0, 1), (1, 0), (1, 1)])

    def test_a_new_list_each_time(self):
        for places in range(1, 6):
            told = all_words(places)
            told.reverse()
            told.append(None)
            self.assertEqual(all_words(places), words(places))
            kept = all_words(places)
            all_words(places).clear()
            self.assertEqual(kept, words(places))


class Height(unittest.TestCase):
    def test_small_ones(self):
        told = [height(number) for number in range(18)]
        self.assertEqual(told, [0, 0, 1, 2, 2, 3, 3, 3, 3, 4, 4, 4, 4, 4, 4, 4, 4, 5])

    def test_below_at_and_above_powers_of_two(self):
        for power in range(2, 101):
            self.assertEqual(height(2 ** power - 1), power)
            self.assertEqual(height(2 ** power), power)
            self.assertEqual(height(2 ** power + 1), power + 1)

    def test_below_zero(self):
        for number in (-1, -2, -3, -1024, -(10 ** 29), 1 - 10 ** 30):
            self.assertEqual(height(number), 0)

    def test_thirty_figures(self):
        for number in (10 ** 29, 10 ** 30 - 1, 2 ** 97, 2 ** 99, 2 ** 99 + 1, 123456789012345678901234567890):
            told = height(number)
            self.assertIs(type(told), int)
            self.assertGreaterEqual(2 ** told, number)
            self.assertLess(2 ** (told - 1), number)


if __name__ == "__main__":
    unittest.main()
