"""Promise 13, and 4 of it: the nearest by how many places are changed."""

import itertools
import unittest

from onebend.changed import bent_with, can_stay, fewest_changed
from onebend.errors import NoFit, NoNumbers, NoPlace
from onebend.rows import are_bent_fractions, bends_one_way, how_far

from nearest_samples import (
    GREAT, as_number, bent_rows, drawn_rows, no_places, other_things, own_bent, own_line, rows_of_at_most,
)
from samples import ROWS, no_rows, small_rows


def own_can_stay(numbers, places):
    """Whether no kept number is above the line of any two others around it."""
    return all(
        numbers[middle] <= own_line(numbers, first, last, middle)
        for first, middle, last in itertools.combinations(places, 3)
    )


def lists_of_places(numbers):
    """Every list of places, rising; the longest first, and of one length in their order as lists."""
    for many in reversed(range(len(numbers) + 1)):
        for places in itertools.combinations(range(len(numbers)), many):
            yield list(places)


def by_going_through(numbers):
    for places in lists_of_places(numbers):
        if own_can_stay(numbers, places):
            return (len(numbers) - len(places), places)


class Fewest(unittest.TestCase):

    def check(self, numbers):
        told = fewest_changed(numbers)
        with self.subTest(numbers=numbers):
            self.assertEqual(repr(told), repr(by_going_through(numbers)))
            many, places = told
            self.assertIs(can_stay(numbers, places), True)
            self.assertEqual(how_far("changed", numbers, bent_with(numbers, places)), (many, 1))

    def test_told_by_hand(self):
        told = [
            ([5], (0, [0])),
            ([5, -5], (0, [0, 1])),
            ([0, 1, 0], (1, [0, 1])),
            ([0, 0, 1, 0], (1, [0, 1, 2])),
            ([0, 1, 1, 2], (1, [0, 2, 3])),
            ([0, 1, 0, 1, 0], (2, [0, 2, 3])),
            ([0, 1, 0, 0, 1], (1, [0, 2, 3, 4])),
            ([0, 5, 1, 2, 3, 4], (1, [0, 2, 3, 4, 5])),
            ([9, 4, 1, 0, 1, 4, 9], (0, [0, 1, 2, 3, 4, 5, 6])),
            ([0, 3, 4, 4, 3, 0], (4, [0, 1])),
            ([0, GREAT, -GREAT, 0, 1], (2, [0, 2, 3])),
            ([0, GREAT, -GREAT, 0, GREAT], (1, [0, 2, 3, 4])),
        ]
        for numbers, due in told:
            with self.subTest(numbers=numbers):
                self.assertEqual(by_going_through(numbers), due)
                self.check(numbers)

    def test_rows(self):
        for numbers in ROWS:
            self.check(numbers)

    def test_every_small_row(self):
        for numbers in small_rows(5, 0, 2):
            self.check(numbers)

    def test_drawn_rows(self):
        for numbers in drawn_rows(25, 9):
            self.check(numbers)

    def test_rows_of_twelve(self):
        for numbers in drawn_rows(40, 12):
            if len(numbers) == 12:
                self.check(numbers)

    def test_rows_that_bend_one_way_stay_as_they_are(self):
        for numbers in bent_rows(12):
            with self.subTest(numbers=numbers):
                self.assertEqual(fewest_changed(numbers), (0, list(range(len(numbers)))))

    def test_none_changed_just_where_it_bends_one_way(self):
        for numbers in drawn_rows(10, 12):
            with self.subTest(numbers=numbers):
                self.assertEqual(fewest_changed(numbers)[0] == 0, bends_one_way(numbers))

    def test_of_steps_that_fall_two_stay(self):
        for many in range(2, 13):
            numbers = [-at * at for at in range(many)]
            with self.subTest(many=many):
                self.assertEqual(fewest_changed(numbers), (many - 2, [0, 1]))


class Stay(unittest.TestCase):

    def check(self, numbers, places):
        can = own_can_stay(numbers, places)
        with self.subTest(numbers=numbers, places=places):
            self.assertIs(can_stay(numbers, places), can)
            if can:
                self.check_bent(numbers, places, bent_with(numbers, places))
            else:
                self.assertRaises(NoFit, bent_with, numbers, places)

    def check_bent(self, numbers, places, bent):
        self.assertIs(type(bent), list)
        self.assertEqual(len(bent), len(numbers))
        self.assertIs(are_bent_fractions(bent), True)
        self.assertTrue(own_bent([as_number(part) for part in bent]))
        self.assertEqual([bent[place] for place in places], [(numbers[place], 1) for place in places])

    def test_every_list_of_places(self):
        for numbers in rows_of_at_most(7) + list(drawn_rows(6, 7)):
            for places in lists_of_places(numbers):
                self.check(numbers, places)

    def test_every_list_of_places_of_a_row_of_nine_and_of_twelve(self):
        for numbers in [[4, 0, 3, 1, -2, 5, 5, 0, 9], [GREAT, 0, -GREAT, 5, -6, 7, 0, 1, 8, GREAT, 0, 6]]:
            for places in lists_of_places(numbers):
                self.check(numbers, places)

    def test_none_and_all(self):
        for numbers in drawn_rows(6, 12):
            self.check(numbers, [])
            self.check(numbers, list(range(len(numbers))))

    def test_one_or_two_can_always_stay(self):
        for numbers in drawn_rows(2, 12):
            for place in range(len(numbers)):
                self.check(numbers, [place])
                for other in range(place):
                    self.assertIs(can_stay(numbers, [other, place]), True)
                    self.check(numbers, [other, place])


class Refused(unittest.TestCase):

    def refused(self, error, tell, *handed):
        with self.subTest(tell=tell.__name__, handed=handed):
            with self.assertRaises(error) as caught:
                tell(*handed)
            self.assertIs(type(caught.exception), error)

    def test_no_place(self):
        for many in [1, 2, 3, 5, 12]:
            for places in no_places(many):
                if many > 1 or places != [0]:
                    for tell in [can_stay, bent_with]:
                        self.refused(NoPlace, tell, [at % 3 for at in range(many)], places)

    def test_every_three_numbers_that_do_not_rise_within_the_row(self):
        for places in itertools.product(range(-2, 5), repeat=3):
            if list(places) != [0, 1, 2]:
                for tell in [can_stay, bent_with]:
                    self.refused(NoPlace, tell, [0, 1, 0], list(places))

    def test_no_fit(self):
        self.refused(NoFit, bent_with, [0, 1, 0], [0, 1, 2])
        self.refused(NoFit, bent_with, [0, 3, 3, 3, 0], [0, 2, 4])
        self.refused(NoFit, bent_with, [-at * at for at in range(12)], [0, 5, 11])

    def test_no_place_goes_ahead_of_no_fit(self):
        # The first three of these places can't stay, and the fourth thing is no place behind them.
        for wrong in [3, -1, 2, 0, True, "3", None]:
            self.refused(NoPlace, bent_with, [0, 1, 0], [0, 1, 2, wrong])
        self.refused(NoPlace, bent_with, [0, 1, 0], (0, 1, 2))
        self.refused(NoPlace, bent_with, [0, 1, 0], [0, True, 2])

    def test_no_numbers(self):
        for thing in no_rows():
            self.refused(NoNumbers, fewest_changed, thing)

    def test_no_numbers_goes_ahead(self):
        for thing in no_rows():
            for places in [[], [0], [0, 1, 2], [2, 1], [0, 0]] + other_things():
                for tell in [can_stay, bent_with]:
                    self.refused(NoNumbers, tell, thing, places)


if __name__ == "__main__":
    unittest.main()
