"""Promise 2: nothing handed in is changed, what is told is the asker's own, and stays the same."""

import copy
import unittest

from onebend.below import greatest_below, touching_places
from onebend.bynumber import nth_within, number_of
from onebend.changed import bent_with, can_stay, fewest_changed
from onebend.counted import how_many_within, is_there_one
from onebend.errors import BendError
from onebend.fewest import fewest_bends
from onebend.greatest import least_greatest, nearest_by_greatest, three_that_show, what_three_show
from onebend.rows import (
    are_bent_fractions, bends_of, bends_one_way, first_wrong, how_far, is_row, steps_of,
)
from onebend.squares import is_nearest_by_squares, nearest_by_squares
from onebend.sums import nearest_by_sum, what_prices_show
from onebend.texts import read_fractions, read_row, show_fractions, show_row

from samples import (
    BENT_FRACTIONS, NARROW_BOUNDS, ROWS, UNBENT_FRACTIONS, WIDE_BOUNDS, WIDE_BOUNDS_WITH_NONE,
    bent_rows_within, no_rows,
)

TELL_OF_A_ROW = [
    is_row, steps_of, bends_of, bends_one_way, first_wrong, are_bent_fractions,
    greatest_below, touching_places, least_greatest, nearest_by_greatest, three_that_show, fewest_changed,
    nearest_by_sum, nearest_by_squares, show_row,
]
TELL_LISTS = [steps_of, bends_of, greatest_below, touching_places, nearest_by_greatest]

# Only these are compared with a copy of themselves.
COPIED = (list, tuple, dict, set, str, bytes, int)

WRONG_LISTS = [
    [], [0] * 13, [3, True, 1], [2, "x", [1, [2]]], [[3, 2, 1]], [None, (1, 2)], [{"b": 1, "a": [2]}],
    [(2, 4), (1, 2)], [[1, 2]], [(1, 1), (1, 0)],
]

WRONG_BOUNDS = [
    [], [(0, 1)] * 11, [(1, 0)], [(0, 13), (2, 1)], [(0, 1), (True, 1)], [[0, 1], [2, 3]], [([0], 1)],
    [(0, 1), {"b": 1, "a": [2]}], {0: (0, 1)}, ([(0, 1)], [0, 1]), "0 1", None,
]

# What is handed in beside bounds: some are answered, some refused.
NUMBERS_AND_OTHERS = [0, 3, -1, 10 ** 12, True, "0", None, [0, [1]], {"a": [1]}]
ROWS_AND_OTHERS = [[0, 0, 0], [5], [2, 1, 0, 1, 2], [9, 3, True], [[3, 2, 1]], (1, [2]), {"a": [1]}, None]

# What is handed in beside a row: places and prices, right and wrong ones.
PLACES_AND_OTHERS = [
    (0, 1, 2), (2, 1, 0), (0, 1), (0, [1], 2), [], [0], [0, 2], [0, 1, 2], [2, 1], [0, [1]], [True], {"a": [1]}, None,
]
PRICES_AND_OTHERS = [
    [(-1, 2), (1, 1), (-1, 2)], [(1, 2), (-1, 1), (1, 2)], [(0, 1)], [(0, 1)] * 12, [(2, 1), (-2, 1)],
    [(3, 6), (0, 1), (1, 1)], [[0, 1]], [(0, [1])], ((0, 1),), {"a": [1]}, None,
]
ROWS_BESIDE = [[4], [0, 3, 1], [3, 1, 2, 9], list(range(12)), [0] * 13, [1, True], (1, [2]), None]


def asked(tell, *handed):
    try:
        return tell(*handed)
    except BendError as refusal:
        return repr(type(refusal))


def many_questions():
    """What can be asked: a function and what is handed to it."""
    for tell in TELL_OF_A_ROW:
        for numbers in ROWS + WRONG_LISTS + BENT_FRACTIONS + UNBENT_FRACTIONS:
            yield tell, [copy.deepcopy(numbers)]
    for measure in ["greatest", "changed", "sum", "squares", "none", ["sum"], {"sum": [1]}, None]:
        for fractions in BENT_FRACTIONS + UNBENT_FRACTIONS + WRONG_LISTS:
            for numbers in [[4], [9, 2, 5], list(range(11, -1, -1))] + WRONG_LISTS:
                yield how_far, [copy.deepcopy(part) for part in (measure, numbers, fractions)]
    for bounds in NARROW_BOUNDS + WIDE_BOUNDS[:3] + WIDE_BOUNDS_WITH_NONE[:1] + WRONG_BOUNDS:
        for tell in [how_many_within, is_there_one, fewest_bends]:
            yield tell, [copy.deepcopy(bounds)]
        for number in NUMBERS_AND_OTHERS:
            yield nth_within, [copy.deepcopy(bounds), copy.deepcopy(number)]
        for numbers in ROWS_AND_OTHERS:
            yield number_of, [copy.deepcopy(bounds), copy.deepcopy(numbers)]
    for numbers in ROWS_BESIDE:
        for tell, others in [
            (what_three_show, PLACES_AND_OTHERS), (can_stay, PLACES_AND_OTHERS), (bent_with, PLACES_AND_OTHERS),
            (what_prices_show, PRICES_AND_OTHERS),
            (is_nearest_by_squares, PRICES_AND_OTHERS + BENT_FRACTIONS + UNBENT_FRACTIONS),
        ]:
            for other in others:
                yield tell, [copy.deepcopy(numbers), copy.deepcopy(other)]
    for fractions in BENT_FRACTIONS + UNBENT_FRACTIONS:
        yield show_fractions, [copy.deepcopy(fractions)]
    for text in ["0", "1 2 3", "1/2 -3", "", "1  2", "2/4", " 1", ["1", "2"], {"1": ["2"]}, None]:
        for tell in [read_row, read_fractions]:
            yield tell, [copy.deepcopy(text)]


class HandedIn(unittest.TestCase):

    def test_nothing_handed_in_is_changed(self):
        for tell, handed in many_questions():
            ahead = copy.deepcopy(handed)
            asked(tell, *handed)
            with self.subTest(tell=tell.__name__, handed=ahead):
                self.assertEqual(repr(handed), repr(ahead))

    def test_nor_behind_a_refusal_of_other_kinds(self):
        for tell in TELL_OF_A_ROW:
            for thing in no_rows():
                if type(thing) in COPIED and "Odd" not in repr(thing):
                    ahead = copy.deepcopy(thing)
                    asked(tell, thing)
                    with self.subTest(tell=tell.__name__, thing=ahead):
                        self.assertEqual(repr(thing), repr(ahead))

    def test_what_is_handed_in_is_not_told_back(self):
        for tell in TELL_LISTS:
            for numbers in ROWS:
                with self.subTest(tell=tell.__name__, numbers=numbers):
                    self.assertIsNot(tell(numbers), numbers)

    def test_what_is_handed_in_is_not_kept(self):
        for tell in TELL_OF_A_ROW:
            numbers = [0, 3, 1, 3]
            asked(tell, numbers)
            numbers[:] = [5, 1, 1, 9, 2]
            with self.subTest(tell=tell.__name__):
                self.assertEqual(asked(tell, numbers), asked(tell, [5, 1, 1, 9, 2]))
        numbers, fractions = [1, 2], [(1, 2), (1, 3)]
        how_far("sum", numbers, fractions)
        numbers[0], fractions[1] = 7, (2, 1)
        self.assertEqual(how_far("sum", numbers, fractions), (13, 2))

    def test_what_is_handed_in_beside_a_row_is_not_kept(self):
        numbers, places = [0, 3, 1, 5], [0, 2]
        self.assertEqual(bent_with(numbers, places), [(0, 1), (1, 2), (1, 1), (3, 2)])
        self.assertIs(can_stay(numbers, places), True)
        places.insert(1, 1)
        self.assertIs(can_stay(numbers, places), False)
        numbers[1] = -3
        self.assertIs(can_stay(numbers, places), True)
        self.assertEqual(bent_with(numbers, places)[1], (-3, 1))
        numbers, prices = [0, 3, 1], [(-1, 2), (1, 1), (-1, 2)]
        self.assertEqual(what_prices_show(numbers, prices), (5, 2))
        numbers[1] = 4
        self.assertEqual(what_prices_show(numbers, prices), (7, 2))
        prices[1] = (1, 2)
        self.assertIs(what_prices_show(numbers, prices), None)


class Told(unittest.TestCase):

    def test_a_told_list_is_the_askers_own(self):
        for tell in TELL_LISTS:
            for numbers in ROWS:
                first = tell(numbers)
                due = list(first)
                first.append("spoilt")
                first[0] = "spoilt"
                second = tell(numbers)
                with self.subTest(tell=tell.__name__, numbers=numbers):
                    self.assertEqual(second, due)
                    second.clear()
                    self.assertEqual(tell(numbers), due)

    def test_no_two_told_are_one(self):
        for tell in TELL_LISTS:
            for numbers in ROWS:
                with self.subTest(tell=tell.__name__, numbers=numbers):
                    self.assertIsNot(tell(numbers), tell(numbers))

    def test_the_same_asked_again_is_answered_the_same(self):
        first = [asked(tell, *handed) for tell, handed in many_questions()]
        second = [asked(tell, *handed) for tell, handed in many_questions()]
        self.assertEqual(repr(first), repr(second))

    def test_what_is_told_may_be_handed_in(self):
        for numbers in ROWS:
            below = greatest_below(numbers)
            with self.subTest(numbers=numbers):
                self.assertIs(are_bent_fractions(below), True)
                changed = len(numbers) - len(touching_places(numbers))
                self.assertEqual(how_far("changed", numbers, below), (changed, 1))
                if len(numbers) > 1:
                    self.assertIs(is_row(steps_of(numbers)), True)
                    self.assertEqual(steps_of(steps_of(numbers)), bends_of(numbers))


def told_lists(numbers):
    """Every list that is told of a row within a tuple, or of a row with places."""
    told = [fewest_changed(numbers)[1]]
    told += [bent_with(numbers, []), bent_with(numbers, [0]), bent_with(numbers, list(told[0]))]
    if len(numbers) <= 8:
        told += nearest_by_sum(numbers)[1:]
        told.append(nearest_by_squares(numbers)[1])
    told += [read_row(show_row(numbers)), read_fractions(show_fractions(told[1])), read_fractions(show_row(numbers))]
    return told


class Nearest(unittest.TestCase):

    def test_a_told_list_is_the_askers_own(self):
        for numbers in ROWS:
            first = told_lists(numbers)
            due = copy.deepcopy(first)
            for told in first:
                told[0] = "spoilt"
                told.append("spoilt")
            with self.subTest(numbers=numbers):
                second = told_lists(numbers)
                self.assertEqual(second, due)
                for told in second:
                    told.clear()
                self.assertEqual(told_lists(numbers), due)

    def test_no_two_told_are_one(self):
        for numbers in ROWS:
            told = told_lists(numbers) + told_lists(numbers)
            with self.subTest(numbers=numbers):
                self.assertEqual(len({id(part) for part in told}), len(told))

    def test_places_that_are_handed_in_are_not_told_back(self):
        for places in [[0], [0, 1], [0, 1, 2]]:
            self.assertIsNot(bent_with([4, 1, 0], places), places)

    def test_a_refusal_changes_nothing(self):
        numbers, tells = [0, 3, 1, 3, 5, 10], [
            least_greatest, three_that_show, fewest_changed, nearest_by_sum, nearest_by_squares, show_row,
        ]
        due = [tell(numbers) for tell in tells]
        for wrong in WRONG_LISTS:
            for tell in tells + [nearest_by_greatest]:
                self.assertRaises(BendError, tell, wrong)
            self.assertRaises(BendError, what_three_show, numbers, wrong)
            self.assertRaises(BendError, bent_with, numbers, [0, 1, 2])
            self.assertRaises(BendError, can_stay, numbers, [9])
            self.assertRaises(BendError, what_prices_show, numbers, wrong)
            self.assertRaises(BendError, nearest_by_sum, [0] * 9)
            self.assertRaises(BendError, nearest_by_squares, [0] * 9)
            self.assertRaises(BendError, read_row, wrong)
            self.assertRaises(BendError, read_fractions, wrong)
            self.assertEqual([tell(numbers) for tell in tells], due)

    def test_what_is_told_may_be_handed_in(self):
        for numbers in ROWS:
            places = three_that_show(numbers)
            many, staying = fewest_changed(numbers)
            with self.subTest(numbers=numbers):
                if places is not None:
                    self.assertEqual(what_three_show(numbers, places), least_greatest(numbers))
                    self.assertIs(can_stay(numbers, list(places)), False)
                self.assertEqual(how_far("greatest", numbers, nearest_by_greatest(numbers)), least_greatest(numbers))
                self.assertIs(can_stay(numbers, staying), True)
                self.assertIs(is_row(staying), True)
                self.assertEqual(how_far("changed", numbers, bent_with(numbers, staying)), (many, 1))
                if len(numbers) <= 8:
                    least, near, prices = nearest_by_sum(numbers)
                    self.assertEqual(how_far("sum", numbers, near), least)
                    self.assertEqual(what_prices_show(numbers, prices), least)
                    least, near = nearest_by_squares(numbers)
                    self.assertEqual(how_far("squares", numbers, near), least)
                    self.assertIs(is_nearest_by_squares(numbers, near), True)

    def test_what_is_told_may_be_handed_in_as_a_row(self):
        for numbers in ROWS:
            if 1 < len(numbers) <= 8:
                steps = steps_of(numbers)
                for row in [steps, [7 * step + 10 ** 14 for step in steps]]:
                    with self.subTest(numbers=numbers, row=row):
                        least, near, prices = nearest_by_sum(row)
                        self.assertEqual(how_far("sum", row, near), least)
                        self.assertEqual(what_prices_show(row, prices), least)
                        self.assertIs(is_nearest_by_squares(row, nearest_by_squares(row)[1]), True)
                        self.assertEqual(how_far("greatest", row, nearest_by_greatest(row)), least_greatest(row))
                        self.assertIs(can_stay(row, fewest_changed(row)[1]), True)


class WithinBounds(unittest.TestCase):

    def told_rows(self, bounds):
        """The rows that are told of bounds with a row within."""
        last = how_many_within(bounds) - 1
        return [nth_within(bounds, 0), nth_within(bounds, last // 2), nth_within(bounds, last), fewest_bends(bounds)[1]]

    def bounds_with_rows(self):
        return [bounds for bounds in NARROW_BOUNDS + WIDE_BOUNDS if is_there_one(bounds)]

    def test_a_told_row_is_the_askers_own(self):
        for bounds in self.bounds_with_rows():
            many, first = how_many_within(bounds), self.told_rows(bounds)
            due = copy.deepcopy(first)
            for numbers in first:
                numbers[0] = "spoilt"
                numbers.append("spoilt")
            with self.subTest(bounds=bounds):
                second = self.told_rows(bounds)
                self.assertEqual(second, due)
                for numbers in second:
                    numbers.clear()
                self.assertEqual(self.told_rows(bounds), due)
                self.assertEqual(how_many_within(bounds), many)
                self.assertEqual([number_of(bounds, numbers) for numbers in due[:3]], [0, (many - 1) // 2, many - 1])

    def test_no_two_told_are_one(self):
        for bounds in self.bounds_with_rows():
            told = self.told_rows(bounds) + self.told_rows(bounds)
            with self.subTest(bounds=bounds):
                self.assertEqual(len({id(numbers) for numbers in told}), len(told))

    def test_what_is_handed_in_is_not_kept(self):
        for tell in [how_many_within, is_there_one, fewest_bends, lambda bounds: nth_within(bounds, 1)]:
            bounds = [(0, 1), (0, 1), (0, 1)]
            tell(bounds)
            bounds[1:] = [(3, 4), (6, 9), (10, 14)]
            self.assertEqual(tell(bounds), tell([(0, 1), (3, 4), (6, 9), (10, 14)]))
        bounds, numbers = [(0, 3), (0, 3)], [0, 3]
        self.assertEqual(number_of(bounds, numbers), 3)
        numbers[0], bounds[1] = 2, (3, 4)
        self.assertEqual(number_of(bounds, numbers), 4)

    def test_a_refusal_changes_nothing(self):
        bounds = [(0, 4)] * 5
        rows = bent_rows_within(bounds)
        for wrong in WRONG_BOUNDS:
            for tell in [how_many_within, is_there_one, fewest_bends]:
                self.assertRaises(BendError, tell, wrong)
            self.assertRaises(BendError, nth_within, bounds, len(rows))
            self.assertRaises(BendError, number_of, bounds, [0, 1, 0, 1, 0])
            self.assertEqual(how_many_within(bounds), len(rows))
            self.assertEqual(nth_within(bounds, 7), rows[7])
            self.assertEqual(number_of(bounds, rows[7]), 7)
            self.assertEqual(fewest_bends(bounds), (0, [0] * 5))

    def test_what_is_told_may_be_handed_in(self):
        for bounds in self.bounds_with_rows():
            for numbers in self.told_rows(bounds):
                with self.subTest(bounds=bounds, numbers=numbers):
                    self.assertIs(bends_one_way(numbers), True)
                    self.assertEqual(nth_within(bounds, number_of(bounds, numbers)), numbers)
                    self.assertEqual(how_many_within([(number, number) for number in numbers]), 1)


if __name__ == "__main__":
    unittest.main()
