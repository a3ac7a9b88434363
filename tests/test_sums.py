"""Promises 14 and 15, and 4 of them: the nearest by the sum of the differences, and prices."""

import unittest
from fractions import Fraction

from onebend.below import greatest_below
from onebend.changed import bent_with, fewest_changed
from onebend.errors import NoNumbers, NoPrices, TooMany
from onebend.greatest import nearest_by_greatest
from onebend.rows import are_bent_fractions, bends_one_way, how_far
from onebend.sums import nearest_by_sum, what_prices_show

from nearest_samples import (
    GREAT, as_number, as_tuple, bent_rows, bent_rows_near, drawn_rows, no_prices, other_things, own_bent, own_gaps,
    own_show_something, own_sum_with, price_rows, rows_of_at_most,
)
from samples import no_rows, small_rows

HALF = (1, 2)
LESS_HALF = (-1, 2)


class Nearest(unittest.TestCase):

    def check(self, numbers):
        with self.subTest(numbers=numbers):
            told = nearest_by_sum(numbers)
            self.assertIs(type(told), tuple)
            least, near, prices = told
            self.check_near(numbers, least, near)
            self.check_prices(numbers, least, prices)
            self.assertIsNot(near, prices)

    def check_near(self, numbers, least, near):
        self.assertIs(type(near), list)
        self.assertEqual(len(near), len(numbers))
        self.assertIs(are_bent_fractions(near), True)
        self.assertTrue(own_bent([as_number(part) for part in near]))
        self.assertEqual(repr(as_tuple(sum(own_gaps(numbers, near)))), repr(least))
        self.assertEqual(how_far("sum", numbers, near), least)

    def check_prices(self, numbers, least, prices):
        self.assertIs(type(prices), list)
        self.assertEqual(len(prices), len(numbers))
        own = [as_number(price) for price in prices]
        self.assertEqual(repr([as_tuple(price) for price in own]), repr(prices))
        self.assertTrue(all(-1 <= price <= 1 for price in own))
        self.assertTrue(own_show_something(own))
        # So no row that bends one way is nearer than this.
        self.assertEqual(own_sum_with(numbers, own), as_number(least))
        self.assertEqual(what_prices_show(numbers, prices), least)

    def test_told_by_hand(self):
        told = [
            ([7], (0, 1)),
            ([7, -7], (0, 1)),
            ([0, 1, 0], (1, 1)),
            ([0, 3, 1], (5, 2)),
            ([0, 1, 0, 1, 0], (2, 1)),
            ([0, 0, 1, 1], (1, 2)),
            ([0, 5, 0, 0, 0], (5, 1)),
            ([0, 0, 0, -1, 0, 0, 0], (1, 1)),
            ([-GREAT, GREAT, -GREAT], (2 * GREAT, 1)),
            ([4, 1, 0, 1, 4], (0, 1)),
        ]
        for numbers, least in told:
            with self.subTest(numbers=numbers):
                self.assertEqual(nearest_by_sum(numbers)[0], least)

    def test_three_numbers(self):
        # The middle one comes down to the line: nothing is nearer.
        for numbers in small_rows(3, -2, 2):
            if len(numbers) == 3:
                first, middle, last = numbers
                due = max(Fraction(0), Fraction(2 * middle - first - last, 2))
                with self.subTest(numbers=numbers):
                    self.assertEqual(nearest_by_sum(numbers)[0], as_tuple(due))

    def test_rows(self):
        for numbers in rows_of_at_most(8):
            self.check(numbers)

    def test_every_small_row(self):
        for numbers in small_rows(6, 0, 2):
            self.check(numbers)

    def test_drawn_rows(self):
        for numbers in drawn_rows(60, 8):
            self.check(numbers)

    def test_rows_of_eight(self):
        for times in range(1, 150):
            self.check([times * at * at * 7919 // 13 * (at + times) // 17 % 41 - 20 for at in range(8)])

    def test_rows_that_bend_one_way(self):
        for numbers in bent_rows(8):
            self.check(numbers)
            with self.subTest(numbers=numbers):
                least, near, prices = nearest_by_sum(numbers)
                self.assertEqual(least, (0, 1))
                self.assertEqual(near, [(number, 1) for number in numbers])

    def test_nothing_only_where_it_bends_one_way(self):
        for numbers in drawn_rows(15, 8):
            with self.subTest(numbers=numbers):
                self.assertEqual(nearest_by_sum(numbers)[0] == (0, 1), bends_one_way(numbers))

    def test_none_of_rows_that_bend_one_way_is_nearer(self):
        for numbers in drawn_rows(12, 8):
            least = as_number(nearest_by_sum(numbers)[0])
            for near in bent_rows_near(numbers, 20):
                self.assertTrue(own_bent(near))
                with self.subTest(numbers=numbers, near=near):
                    self.assertGreaterEqual(sum(abs(number - part) for number, part in zip(numbers, near)), least)

    def test_nothing_else_told_is_nearer(self):
        for numbers in drawn_rows(12, 8):
            least = as_number(nearest_by_sum(numbers)[0])
            kept = bent_with(numbers, fewest_changed(numbers)[1])
            for near in [greatest_below(numbers), nearest_by_greatest(numbers), kept]:
                with self.subTest(numbers=numbers, near=near):
                    self.assertGreaterEqual(as_number(how_far("sum", numbers, near)), least)

    def test_as_far_turned_about_and_with_a_line_put_to_it(self):
        for numbers in drawn_rows(8, 8):
            least = nearest_by_sum(numbers)[0]
            with self.subTest(numbers=numbers):
                self.assertEqual(nearest_by_sum(numbers[::-1])[0], least)
                self.assertEqual(nearest_by_sum([number + 7 - 4 * at for at, number in enumerate(numbers)])[0], least)
                self.assertEqual(nearest_by_sum([3 * number for number in numbers])[0], as_tuple(3 * as_number(least)))


class Shown(unittest.TestCase):

    def check(self, numbers, prices):
        due = as_tuple(own_sum_with(numbers, prices)) if own_show_something(prices) else None
        with self.subTest(numbers=numbers, prices=prices):
            self.assertEqual(repr(what_prices_show(numbers, [as_tuple(price) for price in prices])), repr(due))
        return due

    def test_told_by_hand(self):
        none, one = (0, 1), (1, 1)
        told = [
            ([5], [none], (0, 1)),
            ([5], [one], None),
            ([5], [(-1, 3)], None),
            ([5, 9], [none, none], (0, 1)),
            ([5, 9], [(-1, 1), one], None),
            ([0, 3, 1], [LESS_HALF, one, LESS_HALF], (5, 2)),
            ([4, 0, 4], [LESS_HALF, one, LESS_HALF], (-4, 1)),
            ([4, 0, 4], [HALF, (-1, 1), HALF], None),
            ([0, 3, 1], [(-1, 4), HALF, (-1, 4)], (5, 4)),
            # These add up to 0, but not each times its place; then the other way about.
            ([0, 3, 1], [LESS_HALF, HALF, none], None),
            ([0, 3, 1], [one, (-1, 2), none], None),
            ([0, 3, 1], [HALF, HALF, (-1, 4)], None),
            # Only the third place tells that these show nothing.
            ([1, 2, 3, 4, 5], [(-1, 4), one, (-1, 1), none, (1, 4)], None),
            ([1, 2, 4, 3, 7], [(-1, 5), (2, 5), (-1, 5), none, none], (-1, 5)),
            ([1, 2, 4, 3, 7], [none, none, (-1, 5), (2, 5), (-1, 5)], (-1, 1)),
            ([0, 1, 0, 1, 0], [LESS_HALF, one, (-1, 1), one, LESS_HALF], (2, 1)),
            ([GREAT, -GREAT] * 6, [none] * 12, (0, 1)),
        ]
        for numbers, prices, due in told:
            with self.subTest(numbers=numbers, prices=prices):
                self.assertEqual(what_prices_show(numbers, prices), due)
                self.assertEqual(self.check(numbers, [as_number(price) for price in prices]), due)

    def test_drawn_prices(self):
        shown = []
        for numbers in drawn_rows(8, 12):
            for prices in price_rows(numbers):
                shown.append(self.check(numbers, prices))
        # Else the draw would show too little.
        self.assertGreater(len([due for due in shown if due is not None and due[0] > 0]), 50)
        self.assertGreater(len([due for due in shown if due is not None and due[0] < 0]), 50)
        self.assertGreater(shown.count(None), 50)

    def test_told_prices_with_one_thing_otherwise(self):
        for numbers in drawn_rows(8, 8):
            prices = [as_number(price) for price in nearest_by_sum(numbers)[2]]
            for at in range(len(prices)):
                for more in [Fraction(1, 7), Fraction(-1, 7)]:
                    others = list(prices)
                    others[at] += more
                    if abs(others[at]) <= 1:
                        self.assertIs(self.check(numbers, others), None)

    def test_prices_turned_to_the_other_side_show_nothing(self):
        for numbers in drawn_rows(8, 8):
            prices = nearest_by_sum(numbers)[2]
            other_side = [(-top, bottom) for top, bottom in prices]
            due = (0, 1) if other_side == prices else None
            with self.subTest(numbers=numbers):
                self.assertEqual(what_prices_show(numbers, other_side), due)

    def test_what_is_shown_is_never_above_the_least_sum(self):
        for numbers in drawn_rows(10, 8):
            least = as_number(nearest_by_sum(numbers)[0])
            for prices in price_rows(numbers):
                shown = what_prices_show(numbers, [as_tuple(price) for price in prices])
                if shown is not None:
                    with self.subTest(numbers=numbers, prices=prices):
                        self.assertLessEqual(as_number(shown), least)

    def test_nor_above_how_far_a_longer_row_is(self):
        for numbers in drawn_rows(5, 12):
            far = as_number(how_far("sum", numbers, nearest_by_greatest(numbers)))
            for prices in price_rows(numbers):
                shown = what_prices_show(numbers, [as_tuple(price) for price in prices])
                if shown is not None:
                    with self.subTest(numbers=numbers, prices=prices):
                        self.assertLessEqual(as_number(shown), far)


class Refused(unittest.TestCase):

    def refused(self, error, tell, *handed):
        with self.subTest(tell=tell.__name__, handed=handed):
            with self.assertRaises(error) as caught:
                tell(*handed)
            self.assertIs(type(caught.exception), error)

    def test_too_many(self):
        for many in [9, 10, 11, 12]:
            for numbers in [[0] * many, list(range(many)), [GREAT, -GREAT, 1] * 3 + [0] * (many - 9)]:
                self.refused(TooMany, nearest_by_sum, numbers)
        self.assertEqual(nearest_by_sum([0] * 8)[0], (0, 1))

    def test_no_numbers_goes_ahead_of_too_many(self):
        for many in [9, 10, 11, 12]:
            for wrong in [True, "1", None, [1]]:
                self.refused(NoNumbers, nearest_by_sum, [0] * (many - 1) + [wrong])
            self.refused(NoNumbers, nearest_by_sum, (0,) * many)
        self.refused(NoNumbers, nearest_by_sum, [0] * 13)

    def test_no_prices(self):
        for many in [1, 2, 3, 8, 12]:
            for prices in no_prices(many):
                self.refused(NoPrices, what_prices_show, [at % 3 for at in range(many)], prices)

    def test_no_numbers(self):
        for tell in [nearest_by_sum, lambda numbers: what_prices_show(numbers, [(0, 1)] * 3)]:
            for thing in no_rows():
                self.refused(NoNumbers, tell, thing)

    def test_no_numbers_goes_ahead_of_no_prices(self):
        for thing in no_rows():
            for prices in [[], [(0, 1)], [(0, 1)] * 13, [(2, 1)] * 3, [(2, 4)]] + other_things():
                self.refused(NoNumbers, what_prices_show, thing, prices)


if __name__ == "__main__":
    unittest.main()
