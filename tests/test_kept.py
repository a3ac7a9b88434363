"""Promise 2: nothing handed in is changed, what is told is the asker's own, and stays the same."""

import copy
import unittest

from onebend.below import greatest_below, touching_places
from onebend.errors import BendError
from onebend.rows import (
    are_bent_fractions, bends_of, bends_one_way, first_wrong, how_far, is_row, steps_of,
)

from samples import BENT_FRACTIONS, ROWS, UNBENT_FRACTIONS, no_rows

TELL_OF_A_ROW = [
    is_row, steps_of, bends_of, bends_one_way, first_wrong, are_bent_fractions,
    greatest_below, touching_places,
]
TELL_LISTS = [steps_of, bends_of, greatest_below, touching_places]

# Only these are compared with a copy of themselves.
COPIED = (list, tuple, dict, set, str, bytes, int)

WRONG_LISTS = [
    [], [0] * 13, [3, True, 1], [2, "x", [1, [2]]], [[3, 2, 1]], [None, (1, 2)], [{"b": 1, "a": [2]}],
    [(2, 4), (1, 2)], [[1, 2]], [(1, 1), (1, 0)],
]


def asked(tell, *handed):
    try:
        return tell(*handed)
    except BendError as refusal:
        return repr(type(refusal))


def many_questions():
    """What can be asked: a function and what is handed to it."""
    for tell in TELL_OF_A_ROW:
        for numbers in ROWS + WRONG_LISTS + BENT_FRACTIONS + UNBENT_FRACTIONS:
            yield tell, [copy.deepcopy(numbers)]
    for measure in ["greatest", "changed", "sum", "squares", "none", ["sum"], {"sum": [1]}, None]:
        for fractions in BENT_FRACTIONS + UNBENT_FRACTIONS + WRONG_LISTS:
            for numbers in [[4], [9, 2, 5], list(range(11, -1, -1))] + WRONG_LISTS:
                yield how_far, [copy.deepcopy(part) for part in (measure, numbers, fractions)]


class HandedIn(unittest.TestCase):

    def test_nothing_handed_in_is_changed(self):
        for tell, handed in many_questions():
            ahead = copy.deepcopy(handed)
            asked(tell, *handed)
            with self.subTest(tell=tell.__name__, handed=ahead):
                self.assertEqual(repr(handed), repr(ahead))

    def test_nor_behind_a_refusal_of_other_kinds(self):
        for tell in TELL_OF_A_ROW:
            for thing in no_rows():
                if type(thing) in COPIED and "Odd" not in repr(thing):
                    ahead = copy.deepcopy(thing)
                    asked(tell, thing)
                    with self.subTest(tell=tell.__name__, thing=ahead):
                        self.assertEqual(repr(thing), repr(ahead))

    def test_what_is_handed_in_is_not_told_back(self):
        for tell in TELL_LISTS:
            for numbers in ROWS:
                with self.subTest(tell=tell.__name__, numbers=numbers):
                    self.assertIsNot(tell(numbers), numbers)

    def test_what_is_handed_in_is_not_kept(self):
        for tell in TELL_OF_A_ROW:
            numbers = [0, 3, 1, 3]
            asked(tell, numbers)
            numbers[:] = [5, 1, 1, 9, 2]
            with self.subTest(tell=tell.__name__):
                self.assertEqual(asked(tell, numbers), asked(tell, [5, 1, 1, 9, 2]))
        numbers, fractions = [1, 2], [(1, 2), (1, 3)]
        how_far("sum", numbers, fractions)
        numbers[0], fractions[1] = 7, (2, 1)
        self.assertEqual(how_far("sum", numbers, fractions), (13, 2))


class Told(unittest.TestCase):

    def test_a_told_list_is_the_askers_own(self):
        for tell in TELL_LISTS:
            for numbers in ROWS:
                first = tell(numbers)
                due = list(first)
                first.append("spoilt")
                first[0] = "spoilt"
                second = tell(numbers)
                with self.subTest(tell=tell.__name__, numbers=numbers):
                    self.assertEqual(second, due)
                    second.clear()
                    self.assertEqual(tell(numbers), due)

    def test_no_two_told_are_one(self):
        for tell in TELL_LISTS:
            for numbers in ROWS:
                with self.subTest(tell=tell.__name__, numbers=numbers):
                    self.assertIsNot(tell(numbers), tell(numbers))

    def test_the_same_asked_again_is_answered_the_same(self):
        first = [asked(tell, *handed) for tell, handed in many_questions()]
        second = [asked(tell, *handed) for tell, handed in many_questions()]
        self.assertEqual(repr(first), repr(second))

    def test_what_is_told_may_be_handed_in(self):
        for numbers in ROWS:
            below = greatest_below(numbers)
            with self.subTest(numbers=numbers):
                self.assertIs(are_bent_fractions(below), True)
                changed = len(numbers) - len(touching_places(numbers))
                self.assertEqual(how_far("changed", numbers, below), (changed, 1))
                if len(numbers) > 1:
                    self.assertIs(is_row(steps_of(numbers)), True)
                    self.assertEqual(steps_of(steps_of(numbers)), bends_of(numbers))


if __name__ == "__main__":
    unittest.main()
