"""Promise 6: rows of fractions, and how far one is from a row."""

import itertools
import math
import unittest
from fractions import Fraction

from onebend.errors import NoFit, NoMeasure, NoNumbers
from onebend.rows import are_bent_fractions, how_far

from samples import (
    BENT_FRACTIONS, ROWS, UNBENT_FRACTIONS, no_measures, no_rows, no_rows_of_fractions,
)

MEASURES = ["greatest", "changed", "sum", "squares"]


def pair(value):
    value = Fraction(value)
    return (value.numerator, value.denominator)


def far_by_python(measure, numbers, fractions):
    gaps = [abs(number - Fraction(*part)) for number, part in zip(numbers, fractions)]
    if measure == "greatest":
        return pair(max(gaps))
    if measure == "changed":
        return pair(len(gaps) - gaps.count(0))
    if measure == "sum":
        return pair(sum(gaps))
    return pair(sum(gap * gap for gap in gaps))


class BentFractions(unittest.TestCase):

    def test_bent(self):
        for fractions in BENT_FRACTIONS:
            with self.subTest(fractions=fractions):
                self.assertIs(are_bent_fractions(fractions), True)

    def test_bent_of_each_length(self):
        for many in range(1, 13):
            with self.subTest(many=many):
                self.assertIs(are_bent_fractions([(1, at) for at in range(1, many + 1)]), True)
                self.assertIs(are_bent_fractions([(1, 3)] * many), True)

    def test_not_bent_one_way(self):
        for fractions in UNBENT_FRACTIONS:
            with self.subTest(fractions=fractions):
                self.assertIs(are_bent_fractions(fractions), False)

    def test_a_wrong_bend_at_each_inner_place(self):
        for place in range(1, 11):
            fractions = [(1, 3)] * 12
            fractions[place] = (1, 2)
            with self.subTest(place=place):
                self.assertIs(are_bent_fractions(fractions), False)

    def test_no_rows_of_fractions(self):
        for thing in no_rows_of_fractions():
            with self.subTest(thing=thing):
                self.assertIs(are_bent_fractions(thing), False)

    def test_a_wrong_thing_at_any_place(self):
        for at in range(12):
            for wrong in [(2, 2), (1, 0), (-1, -1), (True, 1), (0, True), [0, 1], (0, 1, 1), 0, None, "0"]:
                fractions = [(0, 1)] * 12
                fractions[at] = wrong
                with self.subTest(at=at, wrong=wrong):
                    self.assertIs(are_bent_fractions(fractions), False)

    def test_least_numbers(self):
        for top in range(-12, 13):
            for bottom in range(-3, 13):
                least = bottom >= 1 and math.gcd(top, bottom) == 1
                with self.subTest(top=top, bottom=bottom):
                    self.assertIs(are_bent_fractions([(top, bottom)]), least)

    def test_every_small_row(self):
        parts = [(-1, 2), (0, 1), (1, 3), (1, 2), (1, 1)]
        for many in range(1, 5):
            for chosen in itertools.product(parts, repeat=many):
                fractions = list(chosen)
                worth = [Fraction(*part) for part in fractions]
                bent = all(
                    worth[at - 1] + worth[at + 1] >= 2 * worth[at] for at in range(1, many - 1)
                )
                with self.subTest(fractions=fractions):
                    self.assertIs(are_bent_fractions(fractions), bent)


class HowFar(unittest.TestCase):

    def test_told_by_hand(self):
        told = [
            ([3], [(1, 2)], [(5, 2), (1, 1), (5, 2), (25, 4)]),
            ([0], [(0, 1)], [(0, 1), (0, 1), (0, 1), (0, 1)]),
            ([0, 0], [(1, 2), (-1, 2)], [(1, 2), (2, 1), (1, 1), (1, 2)]),
            ([0, 3, 0], [(1, 1), (1, 1), (1, 1)], [(2, 1), (3, 1), (4, 1), (6, 1)]),
            ([1, 2, 3, 4], [(1, 1), (7, 3), (3, 1), (7, 2)], [(1, 2), (2, 1), (5, 6), (13, 36)]),
            ([-1, -1], [(-3, 1), (-1, 1)], [(2, 1), (1, 1), (2, 1), (4, 1)]),
        ]
        for numbers, fractions, far in told:
            for measure, due in zip(MEASURES, far):
                with self.subTest(measure=measure, numbers=numbers):
                    self.assertEqual(how_far(measure, numbers, fractions), due)

    def test_as_python_reckons_it(self):
        rows = ROWS + [list(range(many)) for many in range(1, 13)]
        for fractions in BENT_FRACTIONS + UNBENT_FRACTIONS:
            for numbers in rows:
                if len(numbers) == len(fractions):
                    for measure in MEASURES:
                        with self.subTest(measure=measure, numbers=numbers, fractions=fractions):
                            told = how_far(measure, numbers, fractions)
                            self.assertEqual(told, far_by_python(measure, numbers, fractions))
                            self.assertIs(type(told), tuple)
                            self.assertEqual([type(part) for part in told], [int, int])

    def test_small_rows(self):
        parts = [(-3, 2), (0, 1), (1, 3), (5, 6), (2, 1)]
        for many in [1, 2, 3]:
            for fractions in itertools.product(parts, repeat=many):
                for numbers in itertools.product([-1, 0, 2], repeat=many):
                    for measure in MEASURES:
                        with self.subTest(measure=measure, numbers=numbers, fractions=fractions):
                            self.assertEqual(
                                how_far(measure, list(numbers), list(fractions)),
                                far_by_python(measure, numbers, fractions),
                            )

    def test_a_row_is_at_no_distance_from_itself(self):
        for numbers in ROWS:
            for measure in MEASURES:
                with self.subTest(measure=measure, numbers=numbers):
                    self.assertEqual(how_far(measure, numbers, [(number, 1) for number in numbers]), (0, 1))


class HowFarRefused(unittest.TestCase):

    def refused(self, error, measure, numbers, fractions):
        with self.subTest(measure=measure, numbers=numbers, fractions=fractions):
            with self.assertRaises(error):
                how_far(measure, numbers, fractions)

    def test_no_row(self):
        for measure in MEASURES:
            for thing in no_rows():
                self.refused(NoNumbers, measure, thing, [(1, 1), (2, 1), (3, 1)])

    def test_no_row_of_fractions(self):
        for measure in MEASURES:
            for thing in no_rows_of_fractions():
                self.refused(NoNumbers, measure, [1], thing)

    def test_no_numbers_ahead_of_no_measure(self):
        for measure in no_measures():
            self.refused(NoNumbers, measure, [True], [(1, 1)])
            self.refused(NoNumbers, measure, [], [(1, 1)])
            self.refused(NoNumbers, measure, [1], [(2, 2)])
            self.refused(NoNumbers, measure, [1, 2], [(2, 2)])
            self.refused(NoNumbers, measure, None, None)

    def test_no_numbers_ahead_of_no_fit(self):
        for measure in MEASURES:
            self.refused(NoNumbers, measure, [1, 2], [])
            self.refused(NoNumbers, measure, [1, 2], [(0, 2)])
            self.refused(NoNumbers, measure, [0] * 13, [(0, 1)])

    def test_no_measure(self):
        for measure in no_measures():
            self.refused(NoMeasure, measure, [1, 2], [(1, 1), (5, 2)])

    def test_no_measure_ahead_of_no_fit(self):
        for measure in no_measures():
            self.refused(NoMeasure, measure, [1, 2], [(1, 1)])
            self.refused(NoMeasure, measure, [1], [(1, 1), (2, 1)])

    def test_unlike_many(self):
        for measure in MEASURES:
            for many in range(1, 13):
                for other in range(1, 13):
                    if many != other:
                        self.refused(NoFit, measure, [0] * many, [(0, 1)] * other)


if __name__ == "__main__":
    unittest.main()
