"""Promise 10, and 4 of it: the fewest bends of a row within bounds."""

import unittest

from onebend.bynumber import number_of
from onebend.fewest import fewest_bends
from onebend.rows import bends_of

from samples import (
    LONG_BOUNDS, NARROW_BOUNDS, STEEP_BOUNDS, WIDE_BOUNDS, WIDE_BOUNDS_WITH_NONE, around,
    bent_rows_within, drawn_bounds, every_small_bounds, own_bends,
)


def bends_above(numbers):
    return len([bend for bend in own_bends(numbers) if bend > 0])


def by_going_through(bounds):
    rows = bent_rows_within(bounds)
    if not rows:
        return None
    fewest = min(bends_above(numbers) for numbers in rows)
    return (fewest, [numbers for numbers in rows if bends_above(numbers) == fewest][0])


class Fewest(unittest.TestCase):

    def check(self, bounds, due):
        with self.subTest(bounds=bounds):
            told = fewest_bends(bounds)
            self.assertEqual(told, due)
            if due is None:
                self.assertIs(told, None)
            else:
                self.assertIs(type(told), tuple)
                self.assertEqual([type(part) for part in told], [int, list])
                self.assertEqual({type(number) for number in told[1]}, {int})

    def test_told_by_hand(self):
        told = [
            ([(0, 1)] * 3, (0, [0, 0, 0])),
            ([(0, 0), (0, 1), (2, 2)], (0, [0, 1, 2])),
            ([(0, 0), (0, 0), (1, 1)], (1, [0, 0, 1])),
            ([(0, 0), (0, 0), (1, 3), (2, 6)], (1, [0, 0, 1, 2])),
            ([(0, 0), (1, 1), (1, 1)], None),
            ([(0, 0), (-1, 1), (0, 0)], (0, [0, 0, 0])),
            ([(0, 1), (0, 0), (1, 1), (1, 9)], (1, [0, 0, 1, 2])),
            ([(at * at, at * at) for at in range(-5, 5)], (8, [at * at for at in range(-5, 5)])),
            ([(5 - at, 5 - at) for at in range(10)], (0, [5 - at for at in range(10)])),
            ([(0, 1), (0, 0), (1, 1), (4, 4)], (2, [0, 0, 1, 4])),
            ([(0, 2), (0, 1), (0, 0), (0, 0)], (0, [0, 0, 0, 0])),
            ([(2, 4), (1, 2), (0, 0), (0, 0)], (1, [2, 1, 0, 0])),
            # The rows that begin with 3 have two bends.
            ([(3, 4), (1, 2), (0, 0), (0, 0)], (1, [4, 2, 0, 0])),
        ]
        for bounds, due in told:
            self.check(bounds, due)

    def test_one_and_two_numbers_have_no_bends(self):
        for lo in [0, 5, -9, 10 ** 12 - 13, -(10 ** 12 - 1)]:
            for width in range(13):
                self.check([(lo, lo + width)], (0, [lo]))
                self.check([(lo, lo + width), (3, 3 + width)], (0, [lo, 3]))
                self.check([(-4, width - 4), (lo, lo + width)], (0, [-4, lo]))

    def test_against_going_through_all(self):
        for bounds in NARROW_BOUNDS + LONG_BOUNDS + [bounds[::-1] for bounds in LONG_BOUNDS]:
            self.check(bounds, by_going_through(bounds))

    def test_against_going_through_all_of_every_small_one(self):
        for bounds in every_small_bounds():
            self.check(bounds, by_going_through(bounds))

    def test_against_going_through_all_of_drawn_ones(self):
        seen = set()
        for bounds in drawn_bounds(400):
            due = by_going_through(bounds)
            self.check(bounds, due)
            seen.add(due and due[0])
        # Else the draw would show too little.
        self.assertLessEqual({None, 0, 1, 2, 3}, seen)

    def test_four_that_are_thirteen_wide(self):
        for bounds in [[(0, 12)] * 4, around([60, 20, 0, 40], 12), around([-9, 5, -3, 11], 12)]:
            self.check(bounds, by_going_through(bounds))

    def test_one_row_within(self):
        for numbers in [[3], [3, -3], [0] * 10, [2 ** at for at in range(10)], [9, 4, 1, 0, 0, 0, 1, 2, 3, 9]]:
            self.check(around(numbers, 0), (bends_above(numbers), numbers))

    def test_none_within(self):
        for numbers in [[0, 1, 0], [0, 0, 1, 1], list(range(9)) + [7], [0, 2] + [3] * 8, [0] * 8 + [1, 1]]:
            self.check(around(numbers, 0), None)


class WideBounds(unittest.TestCase):

    def test_the_told_row_is_one_of_them(self):
        for bounds in WIDE_BOUNDS + [bounds[::-1] for bounds in WIDE_BOUNDS]:
            with self.subTest(bounds=bounds):
                many, numbers = fewest_bends(bounds)
                self.assertIs(type(numbers), list)
                self.assertEqual(len(numbers), len(bounds))
                self.assertTrue(all(lo <= number <= hi for number, (lo, hi) in zip(numbers, bounds)))
                self.assertTrue(all(bend >= 0 for bend in bends_of(numbers)))
                self.assertEqual(bends_above(numbers), many)
                self.assertGreaterEqual(number_of(bounds, numbers), 0)

    def test_as_few_for_the_bounds_turned_about(self):
        for bounds in WIDE_BOUNDS + [
            bounds for bounds in drawn_bounds(60, 10, 12) if fewest_bends(bounds) is not None
        ]:
            with self.subTest(bounds=bounds):
                self.assertEqual(fewest_bends(bounds[::-1])[0], fewest_bends(bounds)[0])

    def test_as_few_with_the_numbers_of_a_line(self):
        for bounds in WIDE_BOUNDS:
            many, numbers = fewest_bends(bounds)
            for start, step in [(5, 0), (0, 2), (-(10 ** 11), -30)]:
                line = [start + step * at for at in range(10)]
                moved = [(lo + more, hi + more) for (lo, hi), more in zip(bounds, line)]
                with self.subTest(bounds=bounds, start=start, step=step):
                    self.assertEqual(
                        fewest_bends(moved), (many, [number + more for number, more in zip(numbers, line)])
                    )

    def test_none(self):
        for bounds in WIDE_BOUNDS_WITH_NONE:
            with self.subTest(bounds=bounds):
                self.assertIs(fewest_bends(bounds), None)

    def test_where_every_bend_is_above(self):
        self.assertEqual(fewest_bends(STEEP_BOUNDS), (8, [lo for lo, hi in STEEP_BOUNDS]))

    def test_a_line_where_one_is_within(self):
        for step in [-7, -1, 0, 1, 4, 30]:
            line = [step * at for at in range(10)]
            # All but two bounds reach to both sides; so the line is the first one without bends.
            bounds = [(number - 6, number + 6) for number in line]
            bounds[0], bounds[-1] = (line[0], line[0] + 12), (line[-1], line[-1])
            with self.subTest(step=step):
                self.assertEqual(fewest_bends(bounds), (0, line))


if __name__ == "__main__":
    unittest.main()
