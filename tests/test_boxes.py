import itertools
import unittest

from tests.below import boxes_plainly, partings_plainly
from tests.samples import all_small_cases, as_case, is_plain, some_boxes, words
from unlikeplace.boxes import boxes, partings
from unlikeplace.errors import TooMany

EXCLUSIVE = (((0, 1), (1, 0)), ((0, 0), (1, 1)))


def small_boxes():
    """Boxes of each way to have two to eight words of three places, and others."""
    for size in range(2, 9):
        for middle in range(1, size):
            some = words(3)[8 - size:]
            yield (tuple(some[:middle]), tuple(some[middle:]))
            yield (tuple(some[middle:]), tuple(some[:middle]))
            yield (tuple(some[::2]), tuple(some[1::2]))
    for places in range(1, 6):
        yield from some_boxes(places, 30, places, 8)


class Partings(unittest.TestCase):
    def test_written_out(self):
        yes, no = EXCLUSIVE
        self.assertEqual(partings(EXCLUSIVE), [
            ("no", (yes, ((0, 0),)), (yes, ((1, 1),))), ("yes", (((0, 1),), no), (((1, 0),), no))])

    def test_none(self):
        self.assertEqual(partings((((1,),), ((0,),))), [])
        self.assertEqual(partings((((0, 1, 1),), ((1, 1, 1),))), [])

    def test_one_hand_alone(self):
        one, three = ((1, 1),), ((0, 0), (0, 1), (1, 0))
        self.assertEqual(partings((one, three)), [
            ("no", (one, ((0, 0),)), (one, ((0, 1), (1, 0)))),
            ("no", (one, ((0, 0), (0, 1))), (one, ((1, 0),))),
            ("no", (one, ((0, 0), (1, 0))), (one, ((0, 1),)))])
        self.assertEqual(partings((three, one)), [
            ("yes", (((0, 0),), one), (((0, 1), (1, 0)), one)),
            ("yes", (((0, 0), (0, 1)), one), (((1, 0),), one)),
            ("yes", (((0, 0), (1, 0)), one), (((0, 1),), one))])

    def test_many(self):
        for box in small_boxes():
            told = partings(box)
            self.assertIs(type(told), list)
            self.assertEqual(told, partings_plainly(box))
            self.assertTrue(is_plain(told))

    def test_the_order_each_way_once_and_which_is_first(self):
        for box in small_boxes():
            told = partings(box)
            self.assertEqual(told, sorted(set(told)))
            self.assertEqual(len(told), 2 ** (len(box[0]) - 1) + 2 ** (len(box[1]) - 1) - 2)
            ways = set()
            for hand, first, second in told:
                at = {"yes": 0, "no": 1}[hand]
                self.assertEqual(first[1 - at], box[1 - at])
                self.assertEqual(second[1 - at], box[1 - at])
                self.assertTrue(first[at] and second[at])
                self.assertEqual(tuple(sorted(first[at] + second[at])), box[at])
                self.assertEqual((first[at], second[at]), (tuple(sorted(first[at])), tuple(sorted(second[at]))))
                self.assertEqual(first[at][0], box[at][0])
                ways.add((hand, frozenset((first[at], second[at]))))
            self.assertEqual(len(ways), len(told))

    def test_somewhat_more_than_eight_words(self):
        for size in (9, 10):
            some = words(4)[:size]
            box = (tuple(some[:4]), tuple(some[4:]))
            self.assertEqual(partings(box), partings_plainly(box))

    def test_a_new_list_each_time(self):
        kept = partings(EXCLUSIVE)
        told = partings(EXCLUSIVE)
        told.reverse()
        told.pop()
        self.assertEqual(partings(EXCLUSIVE), kept)
        self.assertEqual(len(kept), 2)


class Boxes(unittest.TestCase):
    def test_written_out(self):
        self.assertEqual(boxes((1, ((1,),), ((0,),))), [(((1,),), ((0,),))])
        one, other, zero, both = (0, 1), (1, 0), (0, 0), (1, 1)
        self.assertEqual(boxes((2, (one, other), (zero, both))), [
            ((one,), (zero,)), ((one,), (zero, both)), ((one,), (both,)),
            ((one, other), (zero,)), ((one, other), (zero, both)), ((one, other), (both,)),
            ((other,), (zero,)), ((other,), (zero, both)), ((other,), (both,))])

    def test_many(self):
        for box in itertools.chain(small_boxes(), [case[1:] for case in all_small_cases(2)]):
            told = boxes(as_case(box))
            self.assertIs(type(told), list)
            self.assertEqual(told, boxes_plainly(box))
            self.assertTrue(is_plain(told))
            self.assertEqual(told, sorted(set(told)))
            self.assertEqual(len(told), (2 ** len(box[0]) - 1) * (2 ** len(box[1]) - 1))

    def test_eight_words_and_more(self):
        for places in (3, 4, 5):
            for size in range(8, min(2 ** places, 20) + 1):
                some = words(places)[-size:]
                for middle in {1, 2, size // 2, size - 1}:
                    case = (places, tuple(some[:middle]), tuple(some[middle:]))
                    if size == 8:
                        self.assertEqual(boxes(case), boxes_plainly(case[1:]))
                        continue
                    with self.assertRaises(TooMany) as caught:
                        boxes(case)
                    self.assertIs(type(caught.exception), TooMany)
        whole = words(5)
        self.assertRaises(TooMany, boxes, (5, tuple(whole[:16]), tuple(whole[16:])))
        self.assertRaises(TooMany, boxes, (5, tuple(whole[:1]), tuple(whole[1:])))
        self.assertRaises(TooMany, boxes, (5, tuple(whole[:31]), tuple(whole[31:])))

    def test_a_new_list_each_time(self):
        case = as_case(EXCLUSIVE)
        kept = boxes(case)
        told = boxes(case)
        told.clear()
        self.assertEqual(boxes(case), kept)
        self.assertEqual(len(kept), 9)


if __name__ == "__main__":
    unittest.main()
