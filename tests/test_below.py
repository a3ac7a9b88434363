"""Promise 7, and 4 of it: the greatest row below that bends one way."""

import unittest
from fractions import Fraction

from onebend.below import greatest_below, touching_places
from onebend.errors import NoNumbers
from onebend.rows import are_bent_fractions

from samples import ROWS, no_rows, small_rows


def lowest_line(numbers, place):
    """The lowest that any line between two numbers of the row, or the row, is at a place."""
    lines = [Fraction(numbers[place])]
    for first in range(place):
        for last in range(place + 1, len(numbers)):
            part = Fraction(place - first, last - first)
            lines.append(numbers[first] + part * (numbers[last] - numbers[first]))
    return min(lines)


class GreatestBelow(unittest.TestCase):

    def check(self, numbers):
        with self.subTest(numbers=numbers):
            below = greatest_below(numbers)
            touching = touching_places(numbers)
            due = [lowest_line(numbers, place) for place in range(len(numbers))]
            self.assertIs(type(below), list)
            self.assertEqual(below, [(part.numerator, part.denominator) for part in due])
            self.assertTrue(are_bent_fractions(below))
            worth = [Fraction(*part) for part in below]
            self.assertTrue(all(part <= number for part, number in zip(worth, numbers)))
            self.assertIs(type(touching), list)
            self.assertEqual(
                touching, [at for at in range(len(numbers)) if worth[at] == numbers[at]]
            )
            # Straight between the places where it touches: so none that bends one way is above it.
            for at in range(1, len(numbers) - 1):
                if at not in touching:
                    self.assertEqual(worth[at - 1] + worth[at + 1], 2 * worth[at])
            self.assertEqual(touching[0], 0)
            self.assertEqual(touching[-1], len(numbers) - 1)

    def test_told_by_hand(self):
        told = [
            ([4], [(4, 1)], [0]),
            ([-4], [(-4, 1)], [0]),
            ([4, -9], [(4, 1), (-9, 1)], [0, 1]),
            ([0, 3, 1], [(0, 1), (1, 2), (1, 1)], [0, 2]),
            ([0, -3, 1], [(0, 1), (-3, 1), (1, 1)], [0, 1, 2]),
            ([0, 5, 5, 1], [(0, 1), (1, 3), (2, 3), (1, 1)], [0, 3]),
            ([0, 5, 1, 5, 2], [(0, 1), (1, 2), (1, 1), (3, 2), (2, 1)], [0, 2, 4]),
            ([-2, -1, -7, 0, -7], [(-2, 1), (-9, 2), (-7, 1), (-7, 1), (-7, 1)], [0, 2, 4]),
            ([6, 9, 9, 0, 9, 9, 9, 2, 9, 9, 9, 9],
             [(6, 1), (4, 1), (2, 1), (0, 1), (1, 2), (1, 1), (3, 2), (2, 1),
              (15, 4), (11, 2), (29, 4), (9, 1)],
             [0, 3, 7, 11]),
        ]
        for numbers, below, touching in told:
            with self.subTest(numbers=numbers):
                self.assertEqual(greatest_below(numbers), below)
                self.assertEqual(touching_places(numbers), touching)

    def test_rows(self):
        for numbers in ROWS:
            self.check(numbers)

    def test_every_small_row(self):
        for numbers in small_rows(5, -1, 2):
            self.check(numbers)

    def test_rows_of_twelve(self):
        for times in range(1, 200):
            self.check([times * at * at * 7919 // 13 * (at + times) // 17 % 41 - 20 for at in range(12)])

    def test_great_numbers(self):
        great = 10 ** 12 - 1
        self.check([great, -great, great, -great])
        self.check([-great, great, great, -great, 0, great, -great + 1, 5, great, great - 1, 7, great])
        self.check([123456789012, 999999999999, 987654321098, 100000000000, 555555555555, 333333333334, 1])

    def test_rows_that_bend_one_way_are_their_own(self):
        for numbers in [[5], [3, 9], [4, 0, 4], [at * at for at in range(-6, 6)], [2 ** at for at in range(12)]]:
            with self.subTest(numbers=numbers):
                self.assertEqual(greatest_below(numbers), [(number, 1) for number in numbers])
                self.assertEqual(touching_places(numbers), list(range(len(numbers))))

    def test_rows_on_a_line_touch_at_all_places(self):
        for many in range(1, 13):
            for step in [-5, 0, 3]:
                numbers = [1 + step * at for at in range(many)]
                with self.subTest(numbers=numbers):
                    self.assertEqual(greatest_below(numbers), [(number, 1) for number in numbers])
                    self.assertEqual(touching_places(numbers), list(range(many)))

    def test_one_number_above_a_line(self):
        for place in range(1, 11):
            numbers = [3 * at - 7 for at in range(12)]
            line = [(number, 1) for number in numbers]
            numbers[place] += 1
            with self.subTest(place=place):
                self.assertEqual(greatest_below(numbers), line)
                self.assertEqual(touching_places(numbers), [at for at in range(12) if at != place])

    def test_refused(self):
        for tell in [greatest_below, touching_places]:
            for thing in no_rows():
                with self.subTest(tell=tell.__name__, thing=thing):
                    with self.assertRaises(NoNumbers):
                        tell(thing)


if __name__ == "__main__":
    unittest.main()
