"""Promise 5: rows, their steps and their bends."""

import unittest

from onebend.errors import NoNumbers
from onebend.rows import bends_of, bends_one_way, first_wrong, is_row, steps_of

from samples import ROWS, no_rows, small_rows


class IsRow(unittest.TestCase):

    def test_rows(self):
        for numbers in ROWS + [[1], [1, 2], [-4] * 12, list(range(12)), [10 ** 500, -(10 ** 500)]]:
            with self.subTest(numbers=numbers):
                self.assertIs(is_row(numbers), True)

    def test_anything_else(self):
        for thing in no_rows():
            with self.subTest(thing=thing):
                self.assertIs(is_row(thing), False)

    def test_a_wrong_thing_at_any_place(self):
        for at in range(12):
            for wrong in [True, False, None, "1", [1], (1, 1), b"1"]:
                numbers = list(range(12))
                numbers[at] = wrong
                with self.subTest(at=at, wrong=wrong):
                    self.assertIs(is_row(numbers), False)

    def test_lengths(self):
        for many in range(61):
            with self.subTest(many=many):
                self.assertIs(is_row([5] * many), 1 <= many <= 12)


class StepsAndBends(unittest.TestCase):

    def test_told_by_hand(self):
        told = [
            ([4], [], []),
            ([4, 9], [5], []),
            ([9, 4], [-5], []),
            ([1, 2, 4], [1, 2], [1]),
            ([4, 2, 1], [-2, -1], [1]),
            ([0, 5, 6], [5, 1], [-4]),
            ([3, 1, 4, 1, 5, 9, 2, 6, 5, 3, 5, 8],
             [-2, 3, -3, 4, 4, -7, 4, -1, -2, 2, 3],
             [5, -6, 7, 0, -11, 11, -5, -1, 4, 1]),
            ([10 ** 12 - 1, -(10 ** 12 - 1), 0], [2 - 2 * 10 ** 12, 10 ** 12 - 1], [3 * 10 ** 12 - 3]),
        ]
        for numbers, steps, bends in told:
            with self.subTest(numbers=numbers):
                self.assertEqual(steps_of(numbers), steps)
                self.assertEqual(bends_of(numbers), bends)

    def test_they_are_lists_with_one_fewer_each(self):
        for numbers in ROWS:
            with self.subTest(numbers=numbers):
                self.assertIs(type(steps_of(numbers)), list)
                self.assertIs(type(bends_of(numbers)), list)
                self.assertEqual(len(steps_of(numbers)), len(numbers) - 1)
                self.assertEqual(len(bends_of(numbers)), max(0, len(numbers) - 2))

    def test_steps_lead_back_to_the_numbers(self):
        for numbers in ROWS:
            steps = steps_of(numbers)
            with self.subTest(numbers=numbers):
                self.assertEqual([numbers[0] + sum(steps[:at]) for at in range(len(numbers))], numbers)

    def test_refused(self):
        for tell in [steps_of, bends_of]:
            for thing in no_rows():
                with self.subTest(tell=tell.__name__, thing=thing):
                    with self.assertRaises(NoNumbers):
                        tell(thing)


class OneWay(unittest.TestCase):

    def check(self, numbers, place):
        with self.subTest(numbers=numbers):
            self.assertIs(bends_one_way(numbers), place is None)
            told = first_wrong(numbers)
            self.assertEqual(told, place)
            self.assertIs(type(told), type(place))

    def test_rows_that_bend_one_way(self):
        for numbers in [
            [5], [-5], [3, 9], [9, 3], [4, 0, 4], [9, 4, 1, 0, 1, 4, 9], [5, 1, 0, 0, 0, 2],
            [at * at for at in range(-6, 6)], [2 ** at for at in range(12)],
            [10 ** 12 - 1, 0, 10 ** 12 - 1], [10 ** 30, 0, 0],
        ]:
            self.check(numbers, None)

    def test_rows_on_a_line(self):
        for numbers in [[2, 2, 2], [1, 2, 3], list(range(0, 60, 5)), list(range(0, -36, -3)), [0] * 12]:
            self.check(numbers, None)

    def test_a_bend_below_0_at_each_inner_place(self):
        for place in range(1, 11):
            numbers = [10 * at * at for at in range(12)]
            numbers[place] += 11
            self.check(numbers, place)

    def test_one_number_too_great_on_a_line(self):
        for place in range(1, 11):
            numbers = [7] * 12
            numbers[place] += 1
            self.check(numbers, place)

    def test_one_number_too_small_on_a_line(self):
        for place in range(2, 12):
            numbers = [7] * 12
            numbers[place] -= 1
            self.check(numbers, place - 1)

    def test_the_first_of_several(self):
        self.check([0, 1, 0, 1, 0], 1)
        self.check([3, 0, 0, 1, 0, 1, 0], 3)
        self.check([0, 4, 0], 1)

    def test_every_small_row(self):
        for numbers in small_rows(5, -1, 2):
            wrong = [
                at for at in range(1, len(numbers) - 1)
                if numbers[at - 1] + numbers[at + 1] < 2 * numbers[at]
            ]
            self.check(numbers, wrong[0] if wrong else None)

    def test_refused(self):
        for tell in [bends_one_way, first_wrong]:
            for thing in no_rows():
                with self.subTest(tell=tell.__name__, thing=thing):
                    with self.assertRaises(NoNumbers):
                        tell(thing)


if __name__ == "__main__":
    unittest.main()
