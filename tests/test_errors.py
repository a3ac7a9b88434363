"""Promise 3: the refusals."""

import unittest

from onebend import errors
from onebend.below import greatest_below, touching_places
from onebend.bynumber import nth_within, number_of
from onebend.changed import bent_with, can_stay, fewest_changed
from onebend.counted import how_many_within, is_there_one
from onebend.desk import Desk
from onebend.fewest import fewest_bends
from onebend.greatest import least_greatest, nearest_by_greatest, three_that_show, what_three_show
from onebend.keeper import Keeper
from onebend.rows import bends_of, bends_one_way, first_wrong, how_far, steps_of
from onebend.squares import is_nearest_by_squares, nearest_by_squares
from onebend.sums import nearest_by_sum, what_prices_show
from onebend.texts import read_fractions, read_row, show_row

NAMES = [
    "NoNumbers", "NoBounds", "NoFit", "NoMeasure", "NoNumber", "NoPlace",
    "NoPrices", "TooMany", "NoText", "NoName", "NoRow",
]

OF_A_ROW = [
    steps_of, bends_of, bends_one_way, first_wrong, greatest_below, touching_places, least_greatest,
    nearest_by_greatest, three_that_show, fewest_changed, nearest_by_sum, nearest_by_squares, Keeper, show_row,
]
OF_A_ROW_AND_MORE = [what_three_show, can_stay, bent_with, what_prices_show, is_nearest_by_squares]


def desk_with_rows():
    desk = Desk()
    desk.say("row a 1")
    desk.say("row full 0 0 0 0 0 0 0 0 0 0 0 0")
    return desk


def refusals():
    """Every refusal of the program once: the name of its class, what is asked, and what is handed in."""
    told = [("NoNumbers", tell, [13]) for tell in OF_A_ROW]
    told += [("NoNumbers", tell, [13, None]) for tell in OF_A_ROW_AND_MORE]
    told += [("NoBounds", tell, [[(1, 0)]]) for tell in (how_many_within, is_there_one, fewest_bends)]
    told += [("NoBounds", tell, [[(1, 0)], None]) for tell in (nth_within, number_of)]
    told += [("TooMany", tell, [[0] * 9]) for tell in (nearest_by_sum, nearest_by_squares)]
    told += [("NoPlace", tell, [[0, 1, 0], None]) for tell in (what_three_show, can_stay, bent_with)]
    told += [("NoText", tell, ["x"]) for tell in (read_row, read_fractions)]
    desk = desk_with_rows()
    return told + [
        ("NoNumbers", how_far, ["sum", [1], [1]]),
        ("NoNumbers", how_far, [None, 1, [(1, 1)]]),
        ("NoMeasure", how_far, ["far", [1], [(1, 1), (1, 1)]]),
        ("NoFit", how_far, ["sum", [1], [(1, 1), (1, 1)]]),
        ("NoNumber", nth_within, [[(0, 1)], 2]),
        ("NoFit", number_of, [[(0, 1)], [2]]),
        ("NoFit", bent_with, [[0, 1, 0], [0, 1, 2]]),
        ("NoPrices", what_prices_show, [[0, 1, 0], None]),
        ("NoNumbers", Keeper([1]).put, [None]),
        ("TooMany", Keeper([0] * 12).put, [1]),
        ("NoNumber", Keeper([1]).back, []),
        ("NoRow", desk.say, [None]),
        ("NoRow", desk.say, ["row a"]),
        ("NoRow", desk.say, ["show A"]),
        ("NoName", desk.say, ["show b"]),
        ("NoName", desk.say, ["put b x"]),
        ("NoText", desk.say, ["put a x"]),
        ("NoText", desk.say, ["row a x"]),
        ("NoNumber", desk.say, ["cut a"]),
        ("TooMany", desk.say, ["put full 1"]),
        ("TooMany", desk.say, ["sum full"]),
        ("TooMany", desk.say, ["squares full"]),
    ]


class Refusals(unittest.TestCase):

    def test_each_is_of_its_own_class_and_made_with_one_text(self):
        for name, tell, handed in refusals():
            with self.subTest(name=name, tell=tell.__name__, handed=handed):
                with self.assertRaises(errors.BendError) as caught:
                    tell(*handed)
                refusal = caught.exception
                self.assertIs(type(refusal), getattr(errors, name))
                self.assertIsInstance(refusal, ValueError)
                self.assertEqual(len(refusal.args), 1)
                self.assertIs(type(refusal.args[0]), str)
                self.assertEqual(str(refusal), refusal.args[0])

    def test_every_class_is_used(self):
        self.assertEqual({name for name, tell, handed in refusals()}, set(NAMES))


class ErrorClasses(unittest.TestCase):

    def test_every_class_is_made_with_one_text_that_str_tells(self):
        for name in NAMES + ["BendError"]:
            for text in ["why", "", "two words, and more", "a\tb\n~"]:
                with self.subTest(name=name, text=text):
                    self.assertEqual(str(getattr(errors, name)(text)), text)

    def test_bend_error_is_a_value_error(self):
        self.assertTrue(issubclass(errors.BendError, ValueError))

    def test_every_class_stands_under_bend_error(self):
        for name in NAMES:
            with self.subTest(name=name):
                found = getattr(errors, name)
                self.assertTrue(issubclass(found, errors.BendError))
                self.assertTrue(issubclass(found, ValueError))
                self.assertIsNot(found, errors.BendError)

    def test_none_stands_under_another(self):
        for name in NAMES:
            for other in NAMES:
                if name != other:
                    with self.subTest(name=name, other=other):
                        self.assertFalse(issubclass(getattr(errors, name), getattr(errors, other)))

    def test_each_is_caught_as_bend_error(self):
        for name in NAMES:
            with self.subTest(name=name):
                with self.assertRaises(errors.BendError) as caught:
                    raise getattr(errors, name)("why")
                self.assertEqual(str(caught.exception), "why")


if __name__ == "__main__":
    unittest.main()
