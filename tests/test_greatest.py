"""Promises 11 and 12, and 4 of them: the nearest by the greatest difference."""

import itertools
import unittest

from onebend.below import greatest_below
from onebend.errors import NoNumbers, NoPlace
from onebend.greatest import least_greatest, nearest_by_greatest, three_that_show, what_three_show
from onebend.rows import are_bent_fractions, bends_one_way, how_far

from nearest_samples import (
    GREAT, as_number, as_tuple, bent_rows, bent_rows_near, drawn_rows, no_threes, other_things, own_bent, own_gaps,
    own_least_greatest, own_shown, threes,
)
from samples import ROWS, no_rows, small_rows

ALL_FOUR = [
    least_greatest, nearest_by_greatest, three_that_show, lambda numbers: what_three_show(numbers, (0, 1, 2)),
]


class Nearest(unittest.TestCase):

    def check(self, numbers):
        due = own_least_greatest(numbers)
        with self.subTest(numbers=numbers):
            least, near = least_greatest(numbers), nearest_by_greatest(numbers)
            self.assertEqual(repr(least), repr(as_tuple(due)))
            self.assertIs(type(near), list)
            self.assertEqual(len(near), len(numbers))
            self.assertIs(are_bent_fractions(near), True)
            self.assertTrue(own_bent([as_number(part) for part in near]))
            self.assertEqual(max(own_gaps(numbers, near)), due)
            self.assertEqual(how_far("greatest", numbers, near), least)
            self.check_places(numbers, due)

    def check_places(self, numbers, due):
        shown = {places: own_shown(numbers, places) for places in threes(numbers)}
        first = None
        if due > 0:
            first = min(places for places in shown if shown[places] == due)
        self.assertEqual(repr(three_that_show(numbers)), repr(first))
        for places in shown:
            self.assertEqual(repr(what_three_show(numbers, places)), repr(as_tuple(shown[places])))

    def test_told_by_hand(self):
        told = [
            ([0, 1, 0], (1, 2), (0, 1, 2)),
            ([0, 2, 0], (1, 1), (0, 1, 2)),
            ([0, 0, 1, 0, 0], (1, 2), (0, 2, 3)),
            ([0, 3, 1], (5, 4), (0, 1, 2)),
            ([0, 1, 1, 1], (1, 3), (0, 1, 3)),
            ([0, 1, 0, 1, 0], (1, 2), (0, 1, 2)),
            ([0, 0, 0, 3, 3], (3, 4), (2, 3, 4)),
            ([5, 0, 0, 5], (0, 1), None),
            ([0, 3, 0, 9, 0], (9, 2), (0, 3, 4)),
            ([3, -1, 4, -1, 5, -9], (6, 1), (1, 4, 5)),
            ([-GREAT, GREAT, -GREAT], (GREAT, 1), (0, 1, 2)),
            ([0] * 10 + [1, 0], (1, 2), (0, 10, 11)),
            ([1] + [0] * 11, (0, 1), None),
            ([0, 1] + [0] * 10, (1, 2), (0, 1, 2)),
        ]
        for numbers, least, places in told:
            with self.subTest(numbers=numbers):
                self.assertEqual(least_greatest(numbers), least)
                self.assertEqual(three_that_show(numbers), places)
                if places is not None:
                    self.assertEqual(what_three_show(numbers, places), least)

    def test_rows(self):
        for numbers in ROWS:
            self.check(numbers)

    def test_every_small_row(self):
        for numbers in small_rows(5, -1, 1):
            self.check(numbers)

    def test_drawn_rows(self):
        for numbers in drawn_rows(25, 12):
            self.check(numbers)

    def test_rows_that_bend_one_way(self):
        for numbers in bent_rows(12):
            self.check(numbers)
            with self.subTest(numbers=numbers):
                self.assertEqual(least_greatest(numbers), (0, 1))
                self.assertIs(three_that_show(numbers), None)
                self.assertEqual(nearest_by_greatest(numbers), [(number, 1) for number in numbers])

    def test_one_and_two_numbers(self):
        for numbers in [[0], [-5], [GREAT], [0, 0], [3, -9], [-GREAT, GREAT]]:
            with self.subTest(numbers=numbers):
                self.assertEqual(least_greatest(numbers), (0, 1))
                self.assertIs(three_that_show(numbers), None)
                self.assertEqual(nearest_by_greatest(numbers), [(number, 1) for number in numbers])

    def test_none_of_rows_that_bend_one_way_is_nearer(self):
        for numbers in drawn_rows(8, 12):
            least = as_number(least_greatest(numbers))
            for near in bent_rows_near(numbers, 20):
                self.assertTrue(own_bent(near))
                with self.subTest(numbers=numbers, near=near):
                    gaps = [abs(number - part) for number, part in zip(numbers, near)]
                    self.assertGreaterEqual(max(gaps), least)

    def test_no_three_places_show_more_than_is_true(self):
        for numbers in drawn_rows(4, 9):
            near = [as_number(part) for part in nearest_by_greatest(numbers)]
            farthest = max(abs(number - part) for number, part in zip(numbers, near))
            for places in threes(numbers):
                with self.subTest(numbers=numbers, places=places):
                    self.assertLessEqual(as_number(what_three_show(numbers, places)), farthest)

    def test_the_half_of_the_most_that_the_row_is_above_what_is_below(self):
        for numbers in drawn_rows(10, 12):
            above = how_far("greatest", numbers, greatest_below(numbers))
            with self.subTest(numbers=numbers):
                self.assertEqual(as_tuple(as_number(above) / 2), least_greatest(numbers))
                self.assertEqual(least_greatest(numbers) == (0, 1), bends_one_way(numbers))

    def test_a_number_below_the_line_shows_nothing(self):
        self.assertEqual(what_three_show([4, 0, 4], (0, 1, 2)), (0, 1))
        self.assertEqual(what_three_show([0, 1, 2, 9], (0, 1, 2)), (0, 1))
        self.assertEqual(what_three_show([GREAT, -GREAT, 0, GREAT], (0, 1, 3)), (0, 1))


class Refused(unittest.TestCase):

    def refused(self, error, tell, *handed):
        with self.subTest(handed=handed):
            with self.assertRaises(error) as caught:
                tell(*handed)
            self.assertIs(type(caught.exception), error)

    def test_no_places(self):
        for many in [3, 4, 7, 12]:
            numbers = [at % 3 for at in range(many)]
            for places in no_threes(many):
                self.refused(NoPlace, what_three_show, numbers, places)

    def test_every_three_numbers_that_do_not_rise_within_the_row(self):
        numbers = [3, 1, 4, 1]
        for places in itertools.product(range(-2, 6), repeat=3):
            if places not in threes(numbers):
                self.refused(NoPlace, what_three_show, numbers, places)

    def test_one_and_two_numbers_have_no_three_places(self):
        for numbers in [[5], [5, 2]]:
            for places in [(0, 1, 2), (0, 0, 0), (0, 1, 1), (-1, 0, 1)] + no_threes(len(numbers)):
                self.refused(NoPlace, what_three_show, numbers, places)

    def test_no_numbers(self):
        for tell in ALL_FOUR:
            for thing in no_rows():
                self.refused(NoNumbers, tell, thing)

    def test_no_numbers_goes_ahead(self):
        for thing in no_rows():
            for places in [(0, 1, 2), (2, 1, 0), (0, 0, 0), [0, 1, 2]] + other_things():
                self.refused(NoNumbers, what_three_show, thing, places)


if __name__ == "__main__":
    unittest.main()
