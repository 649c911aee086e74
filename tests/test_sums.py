"""Promise 3: sums, their value, the opposite of a word, and sums put in; promise 1 as far as they reach."""

import copy
import inspect
import unittest
from itertools import product

from loopwords import sums
from loopwords.sums import opposite, put_in, value

HUGE = 10 ** 60

# For one, two and three boxes: small sums, sums with noughts, and very large ones.
SUMS = {
    1: [((0,), 0), ((1,), 0), ((-1,), 3), ((9,), -99), ((HUGE,), -HUGE - 1)],
    2: [((0, 0), 5), ((1, -1), 0), ((2, 3), -7), ((-9, 9), 99), ((HUGE, -3), 1 - HUGE)],
    3: [((0, 0, 0), 0), ((1, 2, 3), 4), ((-1, 0, 1), -1), ((9, -9, 9), -99), ((7, HUGE, -HUGE), HUGE)],
}


def fillings(many):
    held = [-HUGE, -2, 0, 1, 3, 9] if many < 3 else [-HUGE, 0, 1, 9]
    return [list(one) for one in product(held, repeat=many)]


class TestValue(unittest.TestCase):
    def test_each_number_times_its_box_and_the_last_one_more(self):
        self.assertEqual(value(((2,), 5), [3]), 11)
        self.assertEqual(value(((2, -3), 1), [4, 5]), -6)
        self.assertEqual(value(((1, 10, 100), 1000), [2, 3, 4]), 1432)

    def test_without_numbers_only_the_last_one_counts(self):
        self.assertEqual(value(((0, 0), -8), [9, 9]), -8)
        self.assertEqual(value(((5, 6, 7), 0), [0, 0, 0]), 0)

    def test_fillings_beyond_the_tops_and_below_nought(self):
        self.assertEqual(value(((3, 2), 1), [-4, 100]), 189)

    def test_very_large_numbers(self):
        self.assertEqual(value(((HUGE, 1), -1), [HUGE, HUGE]), HUGE * HUGE + HUGE - 1)
        self.assertEqual(value(((HUGE,), 1), [-HUGE]), 1 - HUGE * HUGE)

    def test_it_is_a_whole_number(self):
        self.assertIs(type(value(((0,), 0), [0])), int)

    def test_what_was_handed_in_stays(self):
        filling = [1, 2, 3]
        value(((1, 1, 1), 1), filling)
        self.assertEqual(filling, [1, 2, 3])


class TestOpposite(unittest.TestCase):
    def test_one_less_the_word(self):
        self.assertEqual(opposite(((1,), 0)), ((-1,), 1))
        self.assertEqual(opposite(((2, -3), 5)), ((-2, 3), -4))
        self.assertEqual(opposite(((0, 9, -9), -99)), ((0, -9, 9), 100))

    def test_its_value_is_one_less_the_value_and_just_one_of_both_holds(self):
        for many, words in SUMS.items():
            for word in words:
                for filling in fillings(many):
                    here, there = value(word, filling), value(opposite(word), filling)
                    self.assertEqual(there, 1 - here)
                    self.assertNotEqual(here <= 0, there <= 0)

    def test_the_opposite_of_the_opposite_is_the_word(self):
        for words in SUMS.values():
            for word in words:
                self.assertEqual(opposite(opposite(word)), word)

    def test_it_is_a_sum_of_tuples(self):
        told = opposite(((1, 2), 3))
        self.assertIs(type(told), tuple)
        self.assertIs(type(told[0]), tuple)


class TestPutIn(unittest.TestCase):
    def test_by_hand(self):
        self.assertEqual(put_in(((2,), 5), [((3,), 4)]), ((6,), 13))
        self.assertEqual(put_in(((1, -2), 3), [((1, 1), 1), ((0, 4), -5)]), ((1, -7), 14))
        self.assertEqual(
            put_in(((1, 2, 3), 4), [((0, 1, 0), 0), ((0, 0, 1), 0), ((1, 0, 0), 10)]), ((3, 1, 2), 34)
        )

    def test_the_boxes_themselves_leave_the_sum_as_it_is(self):
        self.assertEqual(put_in(((4, 5), 6), [((1, 0), 0), ((0, 1), 0)]), ((4, 5), 6))

    def test_sums_without_numbers_leave_the_last_one(self):
        self.assertEqual(put_in(((4, 5), 6), [((0, 0), 2), ((0, 0), -3)]), ((0, 0), -1))

    def test_others_over_more_boxes_than_the_first_one(self):
        self.assertEqual(put_in(((3,), 1), [((2, 5), 4)]), ((6, 15), 13))
        self.assertEqual(put_in(((3,), 1), [((2, 5, -1), 4)]), ((6, 15, -3), 13))
        self.assertEqual(put_in(((3, -2), 1), [((2, 5, 7), 4), ((1, 0, -1), 9)]), ((4, 15, 23), -5))

    def test_others_over_fewer_boxes_than_the_first_one(self):
        self.assertEqual(put_in(((3, 1), 1), [((2,), 4), ((-1,), 0)]), ((5,), 13))
        self.assertEqual(put_in(((1, 2, 3), 0), [((1,), 1), ((1,), 0), ((0,), 2)]), ((3,), 7))
        self.assertEqual(put_in(((1, 0, 3), 5), [((1, 2), 0), ((7, 7), 7), ((-1, 1), 1)]), ((-2, 5), 8))

    def test_noughts_for_each_box_of_the_others(self):
        self.assertEqual(put_in(((0,), 4), [((2, 5, 7), 9)]), ((0, 0, 0), 4))
        self.assertEqual(put_in(((0, 0, 0), 4), [((2,), 9)] * 3), ((0,), 4))

    def test_by_each_filling_of_the_others_boxes_the_first_ones_value_by_the_others_values(self):
        for many, inner_many in product((1, 2, 3), repeat=2):
            for one in SUMS[many]:
                for at in range(len(SUMS[inner_many])):
                    boxes = [SUMS[inner_many][(at + box) % len(SUMS[inner_many])] for box in range(many)]
                    told = put_in(one, boxes)
                    self.assertEqual(len(told[0]), inner_many)
                    for filling in fillings(inner_many):
                        values = [value(box, filling) for box in boxes]
                        self.assertEqual(value(told, filling), value(one, values))

    def test_what_was_handed_in_stays_and_may_be_changed_later(self):
        boxes = [((1, 2), 3), ((4, 5), 6)]
        before = copy.deepcopy(boxes)
        told = put_in(((1, 1), 1), boxes)
        self.assertEqual(boxes, before)
        boxes[0] = ((9, 9), 9)
        boxes.clear()
        self.assertEqual(told, ((5, 7), 10))

    def test_it_is_a_sum_of_tuples(self):
        told = put_in(((1,), 1), [((1,), 1)])
        self.assertIs(type(told), tuple)
        self.assertIs(type(told[0]), tuple)


class TestInterface(unittest.TestCase):
    def test_names_and_arguments(self):
        for function, names in ((value, ["one", "filling"]), (opposite, ["one"]), (put_in, ["one", "boxes"])):
            self.assertEqual(list(inspect.signature(function).parameters), names)
            self.assertEqual(function.__module__, sums.__name__)


if __name__ == "__main__":
    unittest.main()
