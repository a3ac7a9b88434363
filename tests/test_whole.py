"""Promise 4: what the stages, a Keeper and a desk tell of one row agrees."""

import unittest
from fractions import Fraction

from onebend.below import greatest_below, touching_places
from onebend.bynumber import nth_within, number_of
from onebend.changed import bent_with, can_stay, fewest_changed
from onebend.counted import how_many_within
from onebend.desk import Desk
from onebend.fewest import fewest_bends
from onebend.greatest import least_greatest, nearest_by_greatest, three_that_show, what_three_show
from onebend.keeper import Keeper
from onebend.rows import are_bent_fractions, bends_of, bends_one_way, first_wrong, how_far, is_row, steps_of
from onebend.squares import is_nearest_by_squares, nearest_by_squares
from onebend.sums import nearest_by_sum, what_prices_show
from onebend.texts import read_fractions, read_row, show_fractions, show_row

from nearest_samples import as_number, as_tuple, bent_rows, drawn_rows
from samples import ROWS

MEASURES = ["greatest", "changed", "sum", "squares"]


def nearest_by_each(numbers):
    """By its measure: how far the nearest is told to be, and a row that is so near."""
    changed, places = fewest_changed(numbers)
    told = {
        "greatest": (least_greatest(numbers), nearest_by_greatest(numbers)),
        "changed": ((changed, 1), bent_with(numbers, places)),
    }
    if len(numbers) <= 8:
        told["sum"] = nearest_by_sum(numbers)[:2]
        told["squares"] = nearest_by_squares(numbers)
    return told


class Whole(unittest.TestCase):

    def rows(self, most=12):
        return [numbers for numbers in ROWS + list(drawn_rows(12, 12)) + list(bent_rows(12)) if len(numbers) <= most]

    def test_each_is_as_near_as_told_and_none_of_the_others_is_nearer(self):
        for numbers in self.rows():
            told = nearest_by_each(numbers)
            others = [near for far, near in told.values()] + [greatest_below(numbers)]
            with self.subTest(numbers=numbers):
                for measure, (far, near) in told.items():
                    self.assertIs(are_bent_fractions(near), True)
                    self.assertEqual(how_far(measure, numbers, near), far)
                    for other in others:
                        self.assertLessEqual(as_number(far), as_number(how_far(measure, numbers, other)))

    def test_the_measures_bound_one_another(self):
        for numbers in self.rows(8):
            far = {measure: as_number(told[0]) for measure, told in nearest_by_each(numbers).items()}
            with self.subTest(numbers=numbers):
                self.assertLessEqual(far["greatest"], far["sum"])
                self.assertLessEqual(far["greatest"] ** 2, far["squares"])
                self.assertLessEqual(far["squares"], len(numbers) * far["greatest"] ** 2)
                self.assertLessEqual(far["sum"], len(numbers) * far["greatest"])
                self.assertLessEqual(far["squares"], far["sum"] ** 2)

    def test_nothing_is_changed_just_where_it_bends_one_way(self):
        for numbers in self.rows():
            bends = bends_one_way(numbers)
            with self.subTest(numbers=numbers):
                self.assertIs(first_wrong(numbers) is None, bends)
                self.assertIs(are_bent_fractions([(number, 1) for number in numbers]), bends)
                self.assertIs(three_that_show(numbers) is None, bends)
                self.assertIs(touching_places(numbers) == list(range(len(numbers))), bends)
                self.assertIs(can_stay(numbers, list(range(len(numbers)))), bends)
                self.assertIs(is_nearest_by_squares(numbers, [(number, 1) for number in numbers]), bends)
                self.assertEqual(how_many_within([(number, number) for number in numbers[:10]]) == 1,
                                 bends_one_way(numbers[:10]))
                for far, near in nearest_by_each(numbers).values():
                    self.assertIs(far == (0, 1), bends)
                    self.assertIs(near == [(number, 1) for number in numbers], bends)

    def test_the_greatest_difference_and_what_is_below(self):
        for numbers in self.rows():
            below = greatest_below(numbers)
            least = as_number(least_greatest(numbers))
            with self.subTest(numbers=numbers):
                self.assertEqual(as_number(how_far("greatest", numbers, below)), 2 * least)
                self.assertIs(can_stay(numbers, touching_places(numbers)), True)
                self.assertEqual(how_far("changed", numbers, below), (len(numbers) - len(touching_places(numbers)), 1))
                lifted = [as_tuple(as_number(part) + least) for part in below]
                self.assertEqual(how_far("greatest", numbers, lifted), as_tuple(least))
                places = three_that_show(numbers)
                if places is not None:
                    self.assertEqual(as_number(what_three_show(numbers, places)), least)

    def test_three_places_as_prices(self):
        # The line's ends are priced below 0 and the place between above it.
        for numbers in self.rows():
            places = three_that_show(numbers)
            if places is not None:
                first, middle, last = places
                prices = [(0, 1)] * len(numbers)
                prices[first] = as_tuple(Fraction(middle - last, last - first))
                prices[middle] = (1, 1)
                prices[last] = as_tuple(Fraction(first - middle, last - first))
                with self.subTest(numbers=numbers):
                    shown = what_prices_show(numbers, prices)
                    self.assertEqual(as_number(shown), 2 * as_number(least_greatest(numbers)))
                    if len(numbers) <= 8:
                        self.assertLessEqual(as_number(shown), as_number(nearest_by_sum(numbers)[0]))

    def test_a_keeper_and_a_desk(self):
        for numbers in self.rows():
            keeper, desk = Keeper(numbers[:1]), Desk()
            desk.say(f"row a {numbers[0]}")
            for number in numbers[1:]:
                keeper.put(number)
                desk.say(f"put a {number}")
            with self.subTest(numbers=numbers):
                self.assertEqual(keeper.row(), numbers)
                self.assertEqual(desk.say("show a"), show_row(keeper.row()))
                self.assertEqual(desk.say("bends a") == "yes", keeper.bends_one_way())
                self.assertEqual(desk.say("below a"), show_fractions(greatest_below(numbers)))
                self.assertEqual(desk.say("stay a"), show_row(keeper.fewest_changed()[1]))
                for measure, (far, near) in nearest_by_each(numbers).items():
                    if measure != "changed":
                        self.assertEqual(read_fractions(desk.say(f"{measure} a")), [far])
                self.assertEqual(keeper.least_greatest(), least_greatest(numbers))


class HandedInAgain(unittest.TestCase):

    def check_row(self, numbers):
        """That everything is told of a row that was itself told."""
        self.assertIs(is_row(numbers), True)
        self.assertEqual(read_row(show_row(numbers)), numbers)
        self.assertEqual(Keeper(numbers).row(), numbers)
        for measure, (far, near) in nearest_by_each(numbers).items():
            self.assertEqual(how_far(measure, numbers, near), far)
        if len(numbers) <= 8:
            least, near, prices = nearest_by_sum(numbers)
            self.assertEqual(what_prices_show(numbers, prices), least)
            self.assertIs(is_nearest_by_squares(numbers, nearest_by_squares(numbers)[1]), True)

    def check_fractions(self, numbers, fractions):
        self.assertEqual(read_fractions(show_fractions(fractions)), fractions)
        for measure in MEASURES:
            far = how_far(measure, numbers, fractions)
            self.assertEqual(read_fractions(show_fractions([far])), [far])
        self.assertIs(type(is_nearest_by_squares(numbers, fractions)), bool)

    def test_rows(self):
        for numbers in ROWS + list(drawn_rows(8, 12)):
            with self.subTest(numbers=numbers):
                told = [steps_of(numbers), bends_of(numbers), touching_places(numbers), fewest_changed(numbers)[1]]
                for row in told:
                    if row:
                        self.check_row(row)
                        self.check_row([number + 10 ** 13 for number in row])

    def test_tops_and_bottoms(self):
        for numbers in drawn_rows(8, 12):
            with self.subTest(numbers=numbers):
                for far, near in nearest_by_each(numbers).values():
                    self.check_row([top for top, bottom in near])
                    self.check_row([bottom for top, bottom in near])
                    self.check_row(list(far))

    def test_fractions(self):
        for numbers in ROWS + list(drawn_rows(8, 12)):
            with self.subTest(numbers=numbers):
                for far, near in nearest_by_each(numbers).values():
                    self.check_fractions(numbers, near)
                    self.check_fractions(numbers, [(top + 7 * bottom, bottom) for top, bottom in near])
                if len(numbers) <= 8:
                    prices = nearest_by_sum(numbers)[2]
                    self.check_fractions(numbers, prices)

    def test_rows_within_bounds(self):
        for bounds in [[(0, 3)] * 4, [(5, 9), (0, 3), (0, 2), (4, 8)], [(0, 12)] * 8]:
            for numbers in [nth_within(bounds, 5), fewest_bends(bounds)[1]]:
                with self.subTest(bounds=bounds, numbers=numbers):
                    self.check_row(numbers)
                    self.assertEqual(nth_within(bounds, number_of(bounds, read_row(show_row(numbers)))), numbers)
                    self.assertEqual(Keeper(numbers).least_greatest(), (0, 1))


if __name__ == "__main__":
    unittest.main()
