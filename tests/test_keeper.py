"""Promise 18, and 4 of it: a Keeper tells what is told of its row."""

import copy
import random
import unittest

from onebend.changed import fewest_changed
from onebend.errors import NoNumber, NoNumbers, TooMany
from onebend.greatest import least_greatest
from onebend.keeper import Keeper
from onebend.rows import bends_one_way

from nearest_samples import GREAT
from samples import ROWS, no_rows, no_whole_numbers


class Keeping(unittest.TestCase):

    def check(self, keeper, numbers):
        with self.subTest(numbers=numbers):
            self.assertEqual(repr(keeper.row()), repr(numbers))
            self.assertIs(keeper.bends_one_way(), bends_one_way(numbers))
            self.assertEqual(repr(keeper.least_greatest()), repr(least_greatest(numbers)))
            self.assertEqual(repr(keeper.fewest_changed()), repr(fewest_changed(numbers)))

    def test_a_keeper_of_a_row(self):
        for numbers in ROWS:
            self.check(Keeper(list(numbers)), numbers)

    def test_told_by_hand(self):
        keeper = Keeper([0])
        self.assertIs(keeper.put(3), None)
        self.assertIs(keeper.put(1), None)
        self.assertEqual(keeper.row(), [0, 3, 1])
        self.assertIs(keeper.bends_one_way(), False)
        self.assertEqual(keeper.least_greatest(), (5, 4))
        self.assertEqual(keeper.fewest_changed(), (1, [0, 1]))
        self.assertIs(keeper.back(), None)
        self.assertEqual(keeper.row(), [0, 3])
        self.assertIs(keeper.bends_one_way(), True)
        self.assertEqual(keeper.least_greatest(), (0, 1))
        self.assertEqual(keeper.fewest_changed(), (0, [0, 1]))

    def deed(self, chance, keeper, numbers, far):
        """One number comes or goes, or is refused; numbers are changed likewise."""
        if chance.random() < 0.6:
            number = chance.randint(-far, far)
            if len(numbers) == 12:
                self.assertRaises(TooMany, keeper.put, number)
            else:
                self.assertIs(keeper.put(number), None)
                numbers.append(number)
        elif len(numbers) == 1:
            self.assertRaises(NoNumber, keeper.back)
        else:
            self.assertIs(keeper.back(), None)
            numbers.pop()

    def test_numbers_come_and_go(self):
        chance = random.Random(18)
        for time in range(40):
            far = chance.choice([1, 5, 40, GREAT])
            numbers = [chance.randint(-far, far) for at in range(chance.randint(1, 12))]
            keeper = Keeper(list(numbers))
            for deed in range(30):
                self.deed(chance, keeper, numbers, far)
                self.check(keeper, numbers)

    def test_to_twelve_and_back_to_one(self):
        keeper = Keeper([5])
        for number in range(11):
            keeper.put(number * number)
        self.check(keeper, [5] + [number * number for number in range(11)])
        for left in range(11, 0, -1):
            keeper.back()
            self.assertEqual(len(keeper.row()), left)
        self.check(keeper, [5])

    def test_two_keepers_beside_one_another(self):
        chance = random.Random(1)
        numbers = [4, 0, 3]
        rows = [list(numbers), list(numbers)]
        keepers = [Keeper(numbers), Keeper(numbers)]
        for deed in range(60):
            at = chance.randrange(2)
            self.deed(chance, keepers[at], rows[at], 9)
            for keeper, row in zip(keepers, rows):
                self.check(keeper, row)
        self.assertEqual(numbers, [4, 0, 3])

    def test_great_numbers_come(self):
        keeper = Keeper([10 ** 40])
        for number in [-(10 ** 41), 3, 10 ** 50]:
            keeper.put(number)
        self.check(keeper, [10 ** 40, -(10 ** 41), 3, 10 ** 50])


class Kept(unittest.TestCase):

    def told(self, keeper):
        return [keeper.row(), keeper.bends_one_way(), keeper.least_greatest(), keeper.fewest_changed()]

    def test_the_row_handed_in_is_not_kept(self):
        numbers = [0, 3, 1]
        keeper = Keeper(numbers)
        due = self.told(keeper)
        numbers[0] = 100
        numbers.append(7)
        self.assertEqual(self.told(keeper), due)
        numbers.clear()
        self.assertEqual(self.told(keeper), due)

    def test_the_row_handed_in_is_not_changed(self):
        numbers = [0, 3, 1]
        keeper = Keeper(numbers)
        keeper.put(5)
        keeper.back()
        keeper.back()
        self.assertEqual(numbers, [0, 3, 1])

    def test_told_lists_are_the_askers_own(self):
        keeper = Keeper([0, 3, 1, 5])
        due = copy.deepcopy(self.told(keeper))
        row, places = keeper.row(), keeper.fewest_changed()[1]
        row.append(9)
        row[0] = "spoilt"
        places.clear()
        self.assertEqual(self.told(keeper), due)
        keeper.put(6)
        keeper.back()
        self.assertEqual(self.told(keeper), due)
        self.assertIsNot(keeper.row(), keeper.row())
        self.assertIsNot(keeper.fewest_changed()[1], keeper.fewest_changed()[1])

    def test_asking_changes_nothing(self):
        keeper = Keeper([4, 9, 2, 2, 8])
        self.assertEqual(repr(self.told(keeper)), repr(self.told(keeper)))


class Refused(unittest.TestCase):

    def refused(self, error, tell, *handed):
        with self.subTest(handed=handed):
            with self.assertRaises(error) as caught:
                tell(*handed)
            self.assertIs(type(caught.exception), error)

    def test_no_row_to_begin_with(self):
        for thing in no_rows():
            self.refused(NoNumbers, Keeper, thing)

    def test_no_whole_number(self):
        for numbers in [[4], [0, 3, 1], list(range(11)), list(range(12))]:
            keeper = Keeper(numbers)
            for thing in no_whole_numbers():
                self.refused(NoNumbers, keeper.put, thing)
                self.assertEqual(keeper.row(), numbers)

    def test_a_thirteenth(self):
        keeper = Keeper(list(range(12)))
        for number in [12, 0, -1, GREAT]:
            self.refused(TooMany, keeper.put, number)
            self.assertEqual(keeper.row(), list(range(12)))
            self.assertIs(keeper.bends_one_way(), True)
        keeper.back()
        keeper.put(40)
        self.assertEqual(keeper.row(), list(range(11)) + [40])

    def test_back_where_one_is_left(self):
        keeper = Keeper([7])
        self.refused(NoNumber, keeper.back)
        self.assertEqual(keeper.row(), [7])
        keeper.put(8)
        keeper.back()
        self.refused(NoNumber, keeper.back)
        self.assertEqual(keeper.row(), [7])

    def test_its_own_methods(self):
        for name in ["put", "back", "row", "bends_one_way", "least_greatest", "fewest_changed"]:
            self.assertIn(name, vars(Keeper))


if __name__ == "__main__":
    unittest.main()
