"""Promises 16 and 17, and 4 of them: the nearest by the sum of the squares."""

import random
import unittest
from fractions import Fraction

from onebend.below import greatest_below
from onebend.changed import bent_with, fewest_changed
from onebend.errors import NoNumbers, TooMany
from onebend.greatest import nearest_by_greatest
from onebend.rows import are_bent_fractions, bends_one_way, how_far
from onebend.squares import is_nearest_by_squares, nearest_by_squares
from onebend.sums import nearest_by_sum

from nearest_samples import (
    GREAT, as_number, as_tuple, bent_rows, bent_rows_near, drawn_rows, other_things, own_bent, own_gaps,
    own_show_something, row_by_steps, rows_of_at_most,
)
from samples import BENT_FRACTIONS, UNBENT_FRACTIONS, no_rows, no_rows_of_fractions, own_bends, small_rows


def own_is_nearest(numbers, near):
    """Straight from what the document says, with Python's own fractions."""
    gaps = [number - part for number, part in zip(numbers, near)]
    return own_bent(near) and own_show_something(gaps) and sum(gap * part for gap, part in zip(gaps, near)) == 0


def planted(chance, many, far):
    """A row, and one that bends one way and is the nearest to it, both of whole numbers."""
    near = row_by_steps(chance, many, far)
    if chance.random() < 0.7:
        # Straight where there would be few places without a bend.
        near = [3 * abs(at - many // 2) - 5 for at in range(many)]
    numbers = list(near)
    for at, bend in enumerate(own_bends(near)):
        if bend == 0:
            weight = chance.choice([0, 1, 2, max(1, far // 9)])
            numbers[at] -= weight
            numbers[at + 1] += 2 * weight
            numbers[at + 2] -= weight
    return numbers, near


def planted_ones(times, most):
    chance = random.Random(16)
    for time in range(times):
        yield planted(chance, chance.randint(1, most), chance.choice([3, 30, 10 ** 6, 10 ** 11]))


def in_fractions(numbers):
    return [(number, 1) for number in numbers]


class Nearest(unittest.TestCase):

    def check(self, numbers):
        with self.subTest(numbers=numbers):
            told = nearest_by_squares(numbers)
            self.assertIs(type(told), tuple)
            least, near = told
            self.assertIs(type(near), list)
            self.assertEqual(len(near), len(numbers))
            self.assertIs(are_bent_fractions(near), True)
            self.assertEqual(repr(as_tuple(sum(gap ** 2 for gap in own_gaps(numbers, near)))), repr(least))
            self.assertEqual(how_far("squares", numbers, near), least)
            # So no row that bends one way is nearer, nor another one as near.
            self.assertTrue(own_is_nearest(numbers, [as_number(part) for part in near]))
            self.assertIs(is_nearest_by_squares(numbers, near), True)

    def test_told_by_hand(self):
        third = (1, 3)
        told = [
            ([7], ((0, 1), [(7, 1)])),
            ([7, -7], ((0, 1), [(7, 1), (-7, 1)])),
            ([0, 1, 0], ((2, 3), [third, third, third])),
            ([0, 3, 0], ((6, 1), [(1, 1), (1, 1), (1, 1)])),
            ([0, 3, 1], ((25, 6), [(5, 6), (4, 3), (11, 6)])),
            ([4, 1, 0, 1, 4], ((0, 1), [(4, 1), (1, 1), (0, 1), (1, 1), (4, 1)])),
            ([0, 0, 0, 1, 1], ((1, 6), [(0, 1), (0, 1), (1, 6), (2, 3), (7, 6)])),
            ([0, 1, 1, 0], ((1, 1), [(1, 2), (1, 2), (1, 2), (1, 2)])),
            ([-GREAT, 2 * GREAT, -GREAT], ((6 * GREAT * GREAT, 1), [(0, 1)] * 3)),
        ]
        for numbers, due in told:
            with self.subTest(numbers=numbers):
                self.assertEqual(nearest_by_squares(numbers), due)

    def test_rows(self):
        for numbers in rows_of_at_most(8):
            self.check(numbers)

    def test_every_small_row(self):
        for numbers in small_rows(6, 0, 2):
            self.check(numbers)

    def test_drawn_rows(self):
        for numbers in drawn_rows(60, 8):
            self.check(numbers)

    def test_rows_of_eight(self):
        for times in range(1, 150):
            self.check([times * at * at * 7919 // 13 * (at + times) // 17 % 41 - 20 for at in range(8)])

    def test_where_a_wrong_choice_is_hardly_wrong(self):
        for numbers, least in [
            ([-1, -1, -2, 2, -1, 2], (49, 6)),
            ([8, 2, -6, 3, -1], (169, 6)),
            ([2, 1, -1, 2, -2], (49, 6)),
            ([9, 4, -6, 8, -9, -1], (961, 6)),
            ([4, 0, -8, 5, -7], (625, 6)),
            ([1, -2, -1, -1, 4, 2], (49, 6)),
            ([2, 0, -1, 1, -2, 2, 2], (206, 35)),
        ]:
            self.check(numbers)
            self.assertEqual(nearest_by_squares(numbers)[0], least)

    def test_one_place_off(self):
        for many in range(1, 9):
            for place in range(many):
                for far in [1, -1, 5, -5, GREAT, -GREAT]:
                    for row in [[0] * many, [at * at for at in range(many)], [7 - 3 * at for at in range(many)]]:
                        row[place] += far
                        self.check(row)

    def test_planted(self):
        for numbers, near in planted_ones(150, 8):
            with self.subTest(numbers=numbers, near=near):
                least = sum((number - part) ** 2 for number, part in zip(numbers, near))
                self.assertEqual(nearest_by_squares(numbers), ((least, 1), in_fractions(near)))

    def test_rows_that_bend_one_way_are_their_own(self):
        for numbers in bent_rows(8):
            with self.subTest(numbers=numbers):
                self.assertEqual(nearest_by_squares(numbers), ((0, 1), in_fractions(numbers)))

    def test_nothing_only_where_it_bends_one_way(self):
        for numbers in drawn_rows(15, 8):
            with self.subTest(numbers=numbers):
                self.assertEqual(nearest_by_squares(numbers)[0] == (0, 1), bends_one_way(numbers))

    def test_none_of_rows_that_bend_one_way_is_nearer(self):
        for numbers in drawn_rows(10, 8):
            least = as_number(nearest_by_squares(numbers)[0])
            for near in bent_rows_near(numbers, 20):
                with self.subTest(numbers=numbers, near=near):
                    self.assertGreaterEqual(sum((number - part) ** 2 for number, part in zip(numbers, near)), least)

    def test_nothing_else_told_is_nearer(self):
        for numbers in drawn_rows(12, 8):
            least, nearest = nearest_by_squares(numbers)
            for near in [
                greatest_below(numbers), nearest_by_greatest(numbers), nearest_by_sum(numbers)[1],
                bent_with(numbers, fewest_changed(numbers)[1]),
            ]:
                with self.subTest(numbers=numbers, near=near):
                    self.assertGreaterEqual(as_number(how_far("squares", numbers, near)), as_number(least))
                    self.assertIs(is_nearest_by_squares(numbers, near), near == nearest)

    def test_turned_about(self):
        for numbers in drawn_rows(12, 8):
            least, near = nearest_by_squares(numbers)
            with self.subTest(numbers=numbers):
                self.assertEqual(nearest_by_squares(numbers[::-1]), (least, near[::-1]))

    def test_with_a_line_put_to_it(self):
        for numbers in drawn_rows(8, 8):
            least, near = nearest_by_squares(numbers)
            for start, step in [(1, 0), (-9, 2), (10 ** 11, -(10 ** 10))]:
                line = [start + step * at for at in range(len(numbers))]
                due = [as_tuple(as_number(part) + more) for part, more in zip(near, line)]
                moved = [number + more for number, more in zip(numbers, line)]
                with self.subTest(numbers=numbers, start=start, step=step):
                    self.assertEqual(nearest_by_squares(moved), (least, due))

    def test_so_many_times_the_row(self):
        for numbers in drawn_rows(8, 8):
            least, near = nearest_by_squares(numbers)
            for times in [2, 7, 1000]:
                due = [as_tuple(times * as_number(part)) for part in near]
                with self.subTest(numbers=numbers, times=times):
                    self.assertEqual(
                        nearest_by_squares([times * number for number in numbers]),
                        (as_tuple(times * times * as_number(least)), due),
                    )


class Judged(unittest.TestCase):

    def check(self, numbers, near):
        """Near is a list of Python's own fractions, as many as numbers."""
        due = own_is_nearest(numbers, near)
        with self.subTest(numbers=numbers, near=near):
            self.assertIs(is_nearest_by_squares(numbers, [as_tuple(part) for part in near]), due)
        return due

    def test_planted_ones_of_longer_rows(self):
        unlike = 0
        for numbers, near in planted_ones(200, 12):
            self.assertTrue(self.check(numbers, near))
            unlike += numbers != near
        self.assertGreater(unlike, 50)

    def test_rows_that_bend_one_way_are_their_own(self):
        for numbers in bent_rows(12):
            self.assertTrue(self.check(numbers, numbers))

    def test_one_place_otherwise(self):
        for numbers, near in planted_ones(30, 12):
            for place in range(len(near)):
                for more in [1, -1, Fraction(1, 1000), Fraction(-1, 3)]:
                    other = list(near)
                    other[place] += more
                    self.assertFalse(self.check(numbers, other))

    def test_one_place_otherwise_of_what_is_told(self):
        for numbers in drawn_rows(6, 8):
            near = [as_number(part) for part in nearest_by_squares(numbers)[1]]
            for place in range(len(near)):
                for more in [1, Fraction(-1, 7)]:
                    other = list(near)
                    other[place] += more
                    self.assertFalse(self.check(numbers, other))

    def test_drawn_rows_near(self):
        for numbers in drawn_rows(5, 12):
            for near in bent_rows_near(numbers, 10):
                self.check(numbers, near)

    def test_where_only_one_thing_is_wrong(self):
        wrong = [
            # What the numbers are above it does not add up to 0.
            ([1], [0]),
            ([3, 3], [0, 0]),
            # It does, but not each times its place.
            ([-1, 1], [0, 0]),
            ([5, -5, 0], [0, 0, 0]),
            # It shows nothing ahead of a place.
            ([1, -2, 1], [0, 0, 0]),
            ([0, 0, 1, -2, 1], [0, 0, 0, 0, 0]),
            ([-1, 3, -3, 1], [0, 0, 0, 0]),
            # Each times its fraction, it does not add up to 0.
            ([4, 1, 4], [5, -1, 5]),
            ([0, 0, 0, 0, 3], [-1, 2, -1, 0, 9]),
            # It does not bend one way.
            ([0, 1, 0], [0, 1, 0]),
            ([5, 5, 6, 6], [5, 5, 6, 6]),
        ]
        for numbers, near in wrong:
            self.assertFalse(self.check(numbers, near))

    def test_another_length(self):
        for numbers, near in planted_ones(20, 11):
            told = in_fractions(near)
            self.assertIs(is_nearest_by_squares(numbers, told), True)
            for other in [told + [told[-1]], told[:-1], told + told, [(0, 1)] + told, told[1:]]:
                with self.subTest(numbers=numbers, other=other):
                    self.assertIs(is_nearest_by_squares(numbers, other), False)
        # Lines go on as lines, so only the length tells here.
        self.assertIs(is_nearest_by_squares([1, 2, 3], [(1, 1), (2, 1), (3, 1), (4, 1)]), False)
        self.assertIs(is_nearest_by_squares([1, 2, 3, 4], [(1, 1), (2, 1), (3, 1)]), False)

    def test_one_not_in_least_numbers(self):
        self.assertIs(is_nearest_by_squares([1, 2, 3], [(1, 1), (2, 1), (3, 1)]), True)
        for place in range(3):
            for wrong in [2, 3, -1, 10]:
                fractions = [(1, 1), (2, 1), (3, 1)]
                fractions[place] = ((place + 1) * wrong, wrong)
                with self.subTest(fractions=fractions):
                    self.assertIs(is_nearest_by_squares([1, 2, 3], fractions), False)

    def test_other_kinds_of_the_same_numbers(self):
        for fractions in [
            [1, 2, 3], [[1, 1], [2, 1], [3, 1]], ((1, 1), (2, 1), (3, 1)), [(True, 1), (2, 1), (3, 1)],
            [(1, True), (2, 1), (3, 1)], [(1, 1), (2, 1), ("3", 1)], "1 2 3", iter([(1, 1), (2, 1), (3, 1)]),
            {(1, 1): 1, (2, 1): 2, (3, 1): 3},
        ]:
            with self.subTest(fractions=fractions):
                self.assertIs(is_nearest_by_squares([1, 2, 3], fractions), False)

    def test_anything(self):
        for numbers in [[0], [1, 2], [0, 1, 0], [5] * 9, [0] * 12]:
            for thing in no_rows_of_fractions() + other_things():
                with self.subTest(numbers=numbers, thing=thing):
                    self.assertIs(is_nearest_by_squares(numbers, thing), False)

    def test_great_fractions(self):
        for numbers in [[1], [GREAT, -GREAT], [0, 1, 0], [3] * 10, [0] * 12]:
            for fractions in BENT_FRACTIONS + UNBENT_FRACTIONS:
                with self.subTest(numbers=numbers, fractions=fractions):
                    due = len(numbers) == len(fractions) and own_is_nearest(
                        numbers, [as_number(part) for part in fractions]
                    )
                    self.assertIs(is_nearest_by_squares(numbers, fractions), due)


class Refused(unittest.TestCase):

    def refused(self, error, tell, *handed):
        with self.subTest(tell=tell.__name__, handed=handed):
            with self.assertRaises(error) as caught:
                tell(*handed)
            self.assertIs(type(caught.exception), error)

    def test_too_many(self):
        for many in [9, 10, 11, 12]:
            for numbers in [[0] * many, list(range(many)), [GREAT, -GREAT, 1] * 3 + [0] * (many - 9)]:
                self.refused(TooMany, nearest_by_squares, numbers)
                self.assertIs(is_nearest_by_squares(numbers, in_fractions([1] * many)), False)
        self.assertEqual(nearest_by_squares([0] * 8)[0], (0, 1))

    def test_no_numbers_goes_ahead_of_too_many(self):
        for many in [9, 10, 11, 12]:
            for wrong in [True, "1", None, [1]]:
                self.refused(NoNumbers, nearest_by_squares, [0] * (many - 1) + [wrong])
            self.refused(NoNumbers, nearest_by_squares, (0,) * many)
        self.refused(NoNumbers, nearest_by_squares, [0] * 13)

    def test_no_numbers(self):
        for thing in no_rows():
            self.refused(NoNumbers, nearest_by_squares, thing)
            for fractions in [[], [(0, 1)], [(0, 1)] * 3, [(2, 4)], [(0, 1)] * 13] + other_things():
                self.refused(NoNumbers, is_nearest_by_squares, thing, fractions)


if __name__ == "__main__":
    unittest.main()
