"""Promise 8, and 4 of it: how many rows that bend one way are within bounds."""

import collections
import unittest

from onebend.bynumber import nth_within, number_of
from onebend.counted import how_many_within, is_there_one
from onebend.errors import NoBounds
from onebend.fewest import fewest_bends

from samples import (
    LONG_BOUNDS, NARROW_BOUNDS, STEEP_BOUNDS, WIDE_BOUNDS, WIDE_BOUNDS_WITH_NONE, Odd, around,
    bent_rows_within, drawn_bounds, every_small_bounds, no_bounds, no_rows, no_whole_numbers, wrong_bounds,
)

# Each asking with what may be handed in besides the bounds.
ASKINGS = [
    (how_many_within, []),
    (is_there_one, []),
    (nth_within, [0]),
    (number_of, [[0]]),
    (fewest_bends, []),
]


def reckoned_by_steps(bounds):
    """How many there are, reckoned from the front by the last number and the step to it."""
    rows = collections.Counter({(number, None): 1 for number in range(bounds[0][0], bounds[0][1] + 1)})
    for lo, hi in bounds[1:]:
        longer = collections.Counter()
        for (last, step), many in rows.items():
            for number in range(lo, hi + 1):
                if step is None or number - last >= step:
                    longer[number, number - last] += many
        rows = longer
    return sum(rows.values())


def with_a_line(bounds, start, step):
    return [(lo + start + step * at, hi + start + step * at) for at, (lo, hi) in enumerate(bounds)]


class HowMany(unittest.TestCase):

    def check(self, bounds, due):
        with self.subTest(bounds=bounds):
            told = how_many_within(bounds)
            self.assertEqual(told, due)
            self.assertIs(type(told), int)
            self.assertIs(is_there_one(bounds), due > 0)

    def test_told_by_hand(self):
        told = [
            ([(4, 4)], 1),
            ([(0, 12)], 13),
            ([(-12, 0)], 13),
            ([(0, 12), (5, 17)], 169),
            ([(3, 3), (-9, -9)], 1),
            ([(0, 1), (0, 1), (0, 1)], 5),
            ([(0, 0), (1, 1), (2, 2)], 1),
            ([(0, 0), (1, 1), (1, 1)], 0),
            ([(0, 0), (1, 1), (1, 2)], 1),
            ([(0, 0), (0, 1), (2, 2)], 2),
            ([(0, 0), (-1, 1), (0, 0)], 2),
            ([(0, 0), (0, 0), (0, 3), (0, 6)], 7 + 5 + 3 + 1),
        ]
        for bounds, due in told:
            self.check(bounds, due)

    def test_against_going_through_all(self):
        for bounds in NARROW_BOUNDS + LONG_BOUNDS:
            self.check(bounds, len(bent_rows_within(bounds)))

    def test_against_going_through_all_of_every_small_one(self):
        for bounds in every_small_bounds():
            self.check(bounds, len(bent_rows_within(bounds)))

    def test_against_going_through_all_of_drawn_ones(self):
        some, none = 0, 0
        for bounds in drawn_bounds(400):
            due = len(bent_rows_within(bounds))
            self.check(bounds, due)
            some, none = some + (due > 0), none + (due == 0)
        # Else the draw would show nothing of one of the two.
        self.assertGreater(some, 50)
        self.assertGreater(none, 20)

    def test_four_that_are_thirteen_wide(self):
        for bounds in [[(0, 12)] * 4, around([9, 0, 0, 9], 12), around([-9, 5, -3, 11], 12)]:
            self.check(bounds, len(bent_rows_within(bounds)))

    def test_one_within(self):
        self.check(around([5, -5], 0), 1)
        for many in range(1, 11):
            for numbers in [[5] * many, list(range(many)), [at * at - 9 * at for at in range(many)]]:
                self.check(around(numbers, 0), 1)

    def test_none_within(self):
        for numbers in [[0, 1, 0], [0, 0, 1, 1], list(range(9)) + [7], [0, 2] + [3] * 8, [0] * 8 + [1, 1]]:
            self.check(around(numbers, 0), 0)


class WideBounds(unittest.TestCase):

    def test_reckoned_in_another_way(self):
        for bounds in WIDE_BOUNDS + WIDE_BOUNDS_WITH_NONE:
            with self.subTest(bounds=bounds):
                due = reckoned_by_steps(bounds)
                self.assertEqual(how_many_within(bounds), due)
                self.assertIs(is_there_one(bounds), due > 0)

    def test_as_many_as_thirteen_to_the_tenth(self):
        for many in range(1, 11):
            with self.subTest(many=many):
                self.assertEqual(how_many_within(STEEP_BOUNDS[:many]), 13 ** many)
                self.assertIs(is_there_one(STEEP_BOUNDS[:many]), True)

    def test_some_have_rows_and_some_have_none(self):
        for bounds in WIDE_BOUNDS:
            with self.subTest(bounds=bounds):
                self.assertIs(is_there_one(bounds), True)
        for bounds in WIDE_BOUNDS_WITH_NONE:
            with self.subTest(bounds=bounds):
                self.assertEqual(how_many_within(bounds), 0)
                self.assertIs(is_there_one(bounds), False)

    def test_turned_about(self):
        for bounds in WIDE_BOUNDS + WIDE_BOUNDS_WITH_NONE + list(drawn_bounds(50, 10, 12)):
            with self.subTest(bounds=bounds):
                self.assertEqual(how_many_within(bounds[::-1]), how_many_within(bounds))

    def test_with_the_numbers_of_a_line(self):
        for bounds in WIDE_BOUNDS + WIDE_BOUNDS_WITH_NONE + list(drawn_bounds(20, 10, 12)):
            due = how_many_within(bounds)
            for start, step in [(1, 0), (0, 1), (-7, -3), (10 ** 11, 17), (0, -(10 ** 10))]:
                with self.subTest(bounds=bounds, start=start, step=step):
                    self.assertEqual(how_many_within(with_a_line(bounds, start, step)), due)

    def test_drawn_ones(self):
        for bounds in drawn_bounds(100, 10, 12):
            with self.subTest(bounds=bounds):
                self.assertEqual(how_many_within(bounds), reckoned_by_steps(bounds))


class Refused(unittest.TestCase):

    def refused(self, asking, bounds, *more):
        with self.subTest(asking=asking.__name__, bounds=bounds, more=more):
            with self.assertRaises(NoBounds):
                asking(bounds, *more)

    def test_anything_else(self):
        for asking, more in ASKINGS:
            for thing in no_bounds():
                self.refused(asking, thing, *more)

    def test_a_wrong_one_at_any_place_of_ten(self):
        for asking, more in ASKINGS:
            for at in range(10):
                for wrong in wrong_bounds():
                    bounds = [(0, 3)] * 10
                    bounds[at] = wrong
                    self.refused(asking, bounds, *more)

    def test_lengths(self):
        for asking, more in ASKINGS:
            for many in [0, *range(11, 61)]:
                self.refused(asking, [(0, 1)] * many, *more)
        for many in range(1, 11):
            with self.subTest(many=many):
                self.assertIs(is_there_one([(0, 1)] * many), True)
                self.assertEqual(nth_within([(0, 1)] * many, 0), [0] * many)
                self.assertEqual(number_of([(0, 1)] * many, [0] * many), 0)
                self.assertEqual(fewest_bends([(0, 1)] * many), (0, [0] * many))

    def test_widths(self):
        for lo in [0, -5, -12, -30, 10 ** 12 - 14, -(10 ** 12 - 1)]:
            for width in range(13):
                with self.subTest(lo=lo, width=width):
                    bounds = [(lo, lo + width)]
                    self.assertEqual(how_many_within(bounds), width + 1)
                    self.assertIs(is_there_one(bounds), True)
                    self.assertEqual(nth_within(bounds, width), [lo + width])
                    self.assertEqual(number_of(bounds, [lo + width]), width)
                    self.assertEqual(fewest_bends(bounds), (0, [lo]))
            for width in [13, 14, 15, 100, -1, -2, -12, -13]:
                for asking, more in ASKINGS:
                    self.refused(asking, [(lo, lo + width)], *more)

    def test_ahead_of_no_number(self):
        for bounds in [[], None, [(1, 0)], [(0, 13)], [(0, True)], [[0, 1]], ((0, 1),), [(0, 0)] * 11]:
            for wrong in [-1, 2, 10 ** 30, *no_whole_numbers()]:
                self.refused(nth_within, bounds, wrong)

    def test_ahead_of_no_fit(self):
        for bounds in [[], None, [(1, 0)], [(0, 13)], [(0, True)], [[0, 1]], ((0, 1),), [(0, 0)] * 11]:
            for wrong in [[5], [0, 0], [0, 1, 0], *no_rows()]:
                self.refused(number_of, bounds, wrong)

    def test_of_all_arguments_alike(self):
        for thing in [None, True, 0, "", [], (), {}, Odd()]:
            self.refused(nth_within, thing, thing)
            self.refused(number_of, thing, thing)


if __name__ == "__main__":
    unittest.main()
