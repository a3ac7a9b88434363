"""Promise 9, and 4 of it: the rows that bend one way within bounds, by their numbers."""

import random
import unittest

from onebend.bynumber import nth_within, number_of
from onebend.counted import how_many_within
from onebend.errors import NoFit, NoNumber
from onebend.rows import bends_one_way

from samples import (
    LONG_BOUNDS, NARROW_BOUNDS, ROWS, STEEP_BOUNDS, WIDE_BOUNDS, WIDE_BOUNDS_WITH_NONE, Odd,
    around, bent_rows_within, drawn_bounds, every_small_bounds, no_rows, no_rows_of_fractions,
    no_whole_numbers, rows_within,
)


class ByNumber(unittest.TestCase):

    def check(self, bounds, rows):
        for i, numbers in enumerate(rows):
            with self.subTest(bounds=bounds, i=i):
                told = nth_within(bounds, i)
                self.assertEqual(told, numbers)
                self.assertIs(type(told), list)
                self.assertEqual({type(number) for number in told}, {int})
                back = number_of(bounds, numbers)
                self.assertEqual(back, i)
                self.assertIs(type(back), int)
        for i in [len(rows), len(rows) + 1, -1, -len(rows), -len(rows) - 1]:
            with self.subTest(bounds=bounds, i=i):
                if i != 0 or not rows:
                    self.assertRaises(NoNumber, nth_within, bounds, i)

    def test_told_by_hand(self):
        self.check([(0, 1)] * 3, [[0, 0, 0], [0, 0, 1], [1, 0, 0], [1, 0, 1], [1, 1, 1]])
        self.check([(4, 6)], [[4], [5], [6]])
        self.check([(-1, 0), (5, 6)], [[-1, 5], [-1, 6], [0, 5], [0, 6]])
        self.check([(0, 0), (-1, 1), (0, 0)], [[0, -1, 0], [0, 0, 0]])
        self.check([(0, 0), (1, 1), (1, 1)], [])
        self.check([(at * at, at * at) for at in range(10)], [[at * at for at in range(10)]])

    def test_against_going_through_all(self):
        for bounds in NARROW_BOUNDS:
            self.check(bounds, bent_rows_within(bounds))

    def test_ten_bounds_against_going_through_all(self):
        for bounds in LONG_BOUNDS:
            rows = bent_rows_within(bounds)
            for i in range(0, len(rows), 1 + len(rows) // 40):
                with self.subTest(bounds=bounds, i=i):
                    self.assertEqual(nth_within(bounds, i), rows[i])
                    self.assertEqual(number_of(bounds, rows[i]), i)

    def test_against_going_through_all_of_every_small_one(self):
        for bounds in every_small_bounds():
            self.check(bounds, bent_rows_within(bounds))

    def test_against_going_through_all_of_drawn_ones(self):
        for bounds in drawn_bounds(150):
            self.check(bounds, bent_rows_within(bounds))


class WideBounds(unittest.TestCase):

    def check(self, bounds, i):
        with self.subTest(bounds=bounds, i=i):
            told = nth_within(bounds, i)
            self.assertIs(type(told), list)
            self.assertEqual(len(told), len(bounds))
            self.assertTrue(bends_one_way(told))
            self.assertTrue(all(lo <= number <= hi for number, (lo, hi) in zip(told, bounds)))
            self.assertEqual(number_of(bounds, told), i)
            return told

    def test_drawn_numbers(self):
        chance = random.Random(9)
        for bounds in WIDE_BOUNDS:
            many = how_many_within(bounds)
            for i in [0, many - 1] + [chance.randrange(many) for time in range(12)]:
                told = self.check(bounds, i)
                if i + 1 < many:
                    self.assertGreater(self.check(bounds, i + 1), told)
            for i in [many, many + 1, -1, -many, 10 ** 40]:
                with self.subTest(bounds=bounds, i=i):
                    self.assertRaises(NoNumber, nth_within, bounds, i)

    def test_where_every_row_bends_one_way(self):
        chance = random.Random(13)
        for i in [0, 1, 12, 13, 13 ** 10 - 1] + [chance.randrange(13 ** 10) for time in range(10)]:
            # The numbers of these rows above their lo are the figures of i, to thirteen.
            numbers = [lo + i // 13 ** (9 - at) % 13 for at, (lo, hi) in enumerate(STEEP_BOUNDS)]
            with self.subTest(i=i):
                self.assertEqual(nth_within(STEEP_BOUNDS, i), numbers)
                self.assertEqual(number_of(STEEP_BOUNDS, numbers), i)
        self.assertRaises(NoNumber, nth_within, STEEP_BOUNDS, 13 ** 10)

    def test_the_numbers_of_neighbouring_rows(self):
        # The last number may stand anywhere from the least that fits to its hi, one number each.
        for bounds in WIDE_BOUNDS:
            told = nth_within(bounds, how_many_within(bounds) // 2)
            least = max(bounds[-1][0], 2 * told[-2] - told[-3])
            numbers = [
                number_of(bounds, told[:-1] + [last]) for last in range(least, bounds[-1][1] + 1)
            ]
            with self.subTest(bounds=bounds):
                self.assertEqual(numbers, list(range(numbers[0], numbers[0] + len(numbers))))

    def test_four_that_are_thirteen_wide(self):
        for bounds in [[(0, 12)] * 4, around([9, 0, 0, 9], 12)]:
            rows = bent_rows_within(bounds)
            for i in range(0, len(rows), 83):
                with self.subTest(bounds=bounds, i=i):
                    self.assertEqual(nth_within(bounds, i), rows[i])
                    self.assertEqual(number_of(bounds, rows[i]), i)


class NoSuchNumber(unittest.TestCase):

    def refused(self, bounds, i):
        with self.subTest(bounds=bounds, i=i):
            with self.assertRaises(NoNumber):
                nth_within(bounds, i)

    def test_what_is_no_whole_number(self):
        for bounds in [[(0, 12)], [(0, 1)] * 3, [(0, 12)] * 10, around([0, 1, 0], 0)]:
            for thing in no_whole_numbers():
                self.refused(bounds, thing)

    def test_where_there_is_no_row(self):
        for bounds in WIDE_BOUNDS_WITH_NONE + [around([0, 1, 0], 0)]:
            for i in [0, 1, -1, 13 ** 10, False, True, None, "0", [0]]:
                self.refused(bounds, i)

    def test_great_numbers(self):
        for bounds in [[(0, 12)], [(0, 12)] * 10]:
            for i in [10 ** 12 - 1, -(10 ** 12 - 1), 10 ** 100, -(10 ** 100)]:
                self.refused(bounds, i)


class NoneOfThem(unittest.TestCase):

    def refused(self, bounds, numbers):
        with self.subTest(bounds=bounds, numbers=numbers):
            with self.assertRaises(NoFit):
                number_of(bounds, numbers)

    def test_every_row_that_does_not_bend_one_way(self):
        for bounds in NARROW_BOUNDS:
            bent = bent_rows_within(bounds)
            for numbers in rows_within(bounds):
                if numbers not in bent:
                    self.refused(bounds, numbers)

    def test_a_number_beyond_its_bound(self):
        bounds = around([at * at for at in range(-5, 5)], 4)
        numbers = [at * at for at in range(-5, 5)]
        self.assertEqual(number_of(bounds, numbers), 0)
        for at, (lo, hi) in enumerate(bounds):
            for wrong in [lo - 1, hi + 1, lo - 13, hi + 13, 10 ** 12 - 1, -(10 ** 12 - 1), 10 ** 50]:
                self.refused(bounds, numbers[:at] + [wrong] + numbers[at + 1:])

    def test_rows_that_bend_one_way_but_stand_beyond(self):
        bounds = [(0, 5)] * 3
        for numbers in [
            [-1, 0, 1], [6, 5, 4], [6, 3, 0], [0, 0, 6], [5, 2, -1], [1, -1, 1], [6, 6, 6], [7, 6, 5],
            [-1, -1, -1], [100, 50, 0],
        ]:
            self.assertTrue(bends_one_way(numbers))
            self.refused(bounds, numbers)

    def test_other_lengths(self):
        for many in range(1, 11):
            for other in range(14):
                if other != many:
                    self.refused([(-2, 2)] * many, [0] * other)

    def test_a_truth_among_its_numbers(self):
        for at in range(3):
            for truth in [True, False]:
                numbers = [1, 0, 1]
                numbers[at] = truth
                self.refused([(0, 1)] * 3, numbers)
                numbers = [0, 0, 0]
                numbers[at] = truth
                self.refused([(0, 1)] * 3, numbers)
        self.refused([(0, 1)], [True])
        self.refused([(0, 1)], [False])

    def test_a_wrong_thing_at_any_place(self):
        for at in range(10):
            for wrong in [True, False, None, "0", b"0", "", [0], (0,), (0, 1), {}, complex(0, 0), Odd()]:
                numbers = [0] * 10
                numbers[at] = wrong
                self.refused([(0, 12)] * 10, numbers)

    def test_anything_that_is_no_row(self):
        for bounds in [[(0, 12)], [(0, 12)] * 2, [(0, 5)] * 3, [(0, 12)] * 10]:
            for thing in no_rows() + no_rows_of_fractions():
                # The one row among them.
                if thing != [1]:
                    self.refused(bounds, thing)
            self.refused(bounds, [(1, 1)])
            self.refused(bounds, tuple([3] * len(bounds)))
            self.refused(bounds, {at: 3 for at in range(len(bounds))})
            self.refused(bounds, iter([3] * len(bounds)))
            self.refused(bounds, bytes([3] * len(bounds)))
            self.refused(bounds, [[3] * len(bounds)])

    def test_where_there_is_no_row(self):
        for bounds in WIDE_BOUNDS_WITH_NONE + [around([0, 1, 0], 0)]:
            self.refused(bounds, [lo for lo, hi in bounds])
            self.refused(bounds, [hi for lo, hi in bounds])
            self.refused(bounds, [])
            self.refused(bounds, None)
            for numbers in ROWS:
                self.refused(bounds, numbers)


if __name__ == "__main__":
    unittest.main()
