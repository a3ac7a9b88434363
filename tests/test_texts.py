"""Promise 19: the writing of rows, and how it is read back."""

import random
import unittest

from onebend.below import greatest_below
from onebend.errors import NoNumbers, NoText
from onebend.greatest import nearest_by_greatest
from onebend.squares import nearest_by_squares
from onebend.sums import nearest_by_sum
from onebend.texts import read_fractions, read_row, show_fractions, show_row

from nearest_samples import as_tuple, drawn_rows
from samples import BENT_FRACTIONS, ROWS, UNBENT_FRACTIONS, no_rows

WRITTEN = [
    ([0], "0"),
    ([7], "7"),
    ([-7], "-7"),
    ([10], "10"),
    ([1, 2, 3], "1 2 3"),
    ([0, -1, 0, 20, -305], "0 -1 0 20 -305"),
    ([0] * 12, "0 0 0 0 0 0 0 0 0 0 0 0"),
    ([10 ** 12 - 1, -(10 ** 12 - 1)], "999999999999 -999999999999"),
    ([10 ** 29, -(10 ** 30 - 1)], "1" + "0" * 29 + " -" + "9" * 30),
]

WRITTEN_FRACTIONS = [
    ([(0, 1)], "0"),
    ([(5, 1)], "5"),
    ([(-5, 1)], "-5"),
    ([(1, 2)], "1/2"),
    ([(-1, 2)], "-1/2"),
    ([(10, 3), (0, 1), (-7, 100)], "10/3 0 -7/100"),
    ([(1, 2), (3, 1), (3, 10), (-11, 1)], "1/2 3 3/10 -11"),
    ([(1, 11)] * 12, " ".join(["1/11"] * 12)),
    ([(10 ** 12 - 1, 10 ** 12 - 2)], "999999999999/999999999998"),
    ([(-(10 ** 30 - 1), 10 ** 29)], "-" + "9" * 30 + "/1" + "0" * 29),
]

# What writes neither a row nor a row of fractions.
NOTHING = [
    "", " ", "  ", "1  2", " 1", "1 ", " 1 2", "1 2 ", "1   2", "1\t2", "\t1", "1\t", "1\n", "\n1", "1\n2", "1 2\n",
    "\n", "1\r", "1 \n2", "00", "01", "007", "-01", "-007", "1 02", "0 00", "-0", "1 -0", "-0 1", "-00", "+1",
    "+0", "1 +2", "--1", "-", "- 1", "1 -", "1-", "1-2", "-1-", "1,2", "1, 2", "1;2", "1.", "1.0", ".5", "1_000",
    "1e3", "0x10", "a", "1 a", "a 1", "one", "1 b 2", "True", "None", "[1, 2]", "(1, 2)", "1 2 x", "\"1\"", "'1'",
    "1!", "~", "#1", "1 2 3 .",
    " ".join(["1"] * 13), " ".join(["0"] * 30), "1 " * 12, " 1" * 12,
    "\u0661", "1 \u0662", "\u00b2", "\u00bd", "\u2460", "1\u00a02", "\uff11", "\u22121", "1\u20032", "\u09e7\u09e8",
]

NO_FRACTIONS = [
    "2/4", "6/3", "0/2", "0/5", "-2/4", "10/100", "3/3", "1/1", "0/1", "5/1", "-5/1", "1/-2", "-1/-2", "1/0", "0/0",
    "-1/0", "/", "/2", "1/", "-/2", "1/-", "1//2", "1/2/3", "/1/2", "1/2/", "1 /2", "1/ 2", "1 / 2", "01/2", "1/02",
    "1/00", "-0/1", "-0/2", "0/-1", "+1/2", "1/+2", "1/2 2/4", "1/2  1/3", " 1/2", "1/2 ", "1/2\n", "\t1/2", "1\\2",
    "1:2", "1/a", "a/2", "1/2a", "1/2 x", " ".join(["1/2"] * 13), "1/\u0662", "\u0661/2", "1\u20442", "1/2,1/3",
    "1/01", "1/10 10/1", "-", "--1/2", "1/--2",
]


def no_texts():
    """Things that are no text; made anew."""
    return [
        None, True, False, 0, 1, 12, -3, [], ["1"], ["1", "2"], [1, 2], (), ("1",), (1, 2), {}, {"1": 2}, {"1"}, b"",
        b"1", b"1 2", range(3), iter("1"), complex(1, 0), [(1, 2)], (1, 2), object(), str, len,
    ]


class Rows(unittest.TestCase):

    def test_written_and_read(self):
        for numbers, text in WRITTEN:
            with self.subTest(text=text):
                self.assertEqual(show_row(numbers), text)
                self.assertEqual(repr(read_row(text)), repr(numbers))

    def test_read_back(self):
        chance = random.Random(19)
        drawn = [
            [chance.randint(-far, far) for at in range(many)]
            for many in range(1, 13) for far in [1, 12, 10 ** 6, 10 ** 12 - 1, 10 ** 30 - 1]
        ]
        for numbers in ROWS + drawn + list(drawn_rows(5, 12)):
            with self.subTest(numbers=numbers):
                text = show_row(numbers)
                self.assertIs(type(text), str)
                self.assertEqual(text, " ".join(map(str, numbers)))
                self.assertEqual(repr(read_row(text)), repr(numbers))

    def test_around_every_count_of_figures(self):
        for figures in range(1, 200):
            great = 10 ** figures
            for number in [great - 1, great, great + 1, 7 * great + 10 ** (figures // 2)]:
                with self.subTest(number=number):
                    self.assertEqual(show_row([number, -number]), f"{number} -{number}")
                    self.assertEqual(read_row(f"{number} -{number}"), [number, -number])

    def test_more_figures_than_python_writes_at_once(self):
        # Such numbers are told where told ones are handed in again and again.
        number, text = 10 ** 9000 + 7, "1" + "0" * 8999 + "7"
        self.assertTrue(show_row([number, -number]) == f"{text} -{text}")
        self.assertTrue(read_row(f"{text} -{text}") == [number, -number])
        self.assertTrue(show_fractions([(number, number + 1)]) == f"{text}/{text[:-1]}8")
        self.assertTrue(read_fractions(f"{text}/{text[:-1]}8") == [(number, number + 1)])

    def test_a_new_list_each_time(self):
        first = read_row("1 2 3")
        first.clear()
        self.assertEqual(read_row("1 2 3"), [1, 2, 3])

    def test_no_row_is_written(self):
        for thing in no_rows():
            with self.subTest(thing=thing):
                with self.assertRaises(NoNumbers) as caught:
                    show_row(thing)
                self.assertIs(type(caught.exception), NoNumbers)


class Fractions(unittest.TestCase):

    def test_written_and_read(self):
        for fractions, text in WRITTEN_FRACTIONS:
            with self.subTest(text=text):
                self.assertEqual(show_fractions(fractions), text)
                self.assertEqual(repr(read_fractions(text)), repr(fractions))

    def check(self, fractions):
        with self.subTest(fractions=fractions):
            text = show_fractions(fractions)
            self.assertIs(type(text), str)
            self.assertEqual(repr(read_fractions(text)), repr(fractions))

    def test_read_back(self):
        for fractions in BENT_FRACTIONS + UNBENT_FRACTIONS:
            self.check(fractions)
        for numbers in drawn_rows(10, 8):
            for fractions in [
                greatest_below(numbers), nearest_by_greatest(numbers), nearest_by_squares(numbers)[1],
                *nearest_by_sum(numbers)[1:],
            ]:
                self.check(fractions)

    def test_every_small_fraction(self):
        for top in range(-13, 14):
            for bottom in range(1, 14):
                text = f"{top}/{bottom}"
                with self.subTest(text=text):
                    self.check([as_tuple(top), (1, bottom)])
                    if bottom > 1 and self.in_lowest_terms(top, bottom):
                        self.assertEqual(read_fractions(text), [(top, bottom)])
                        self.assertEqual(show_fractions([(top, bottom)]), text)
                    else:
                        self.assertRaises(NoText, read_fractions, text)

    def in_lowest_terms(self, top, bottom):
        return not any(top % other == 0 and bottom % other == 0 for other in range(2, bottom + 1))

    def test_a_row_is_read_as_fractions_too(self):
        for numbers, text in WRITTEN:
            with self.subTest(text=text):
                self.assertEqual(read_fractions(text), [(number, 1) for number in numbers])
                self.assertEqual(show_fractions([(number, 1) for number in numbers]), text)

    def test_a_new_list_each_time(self):
        first = read_fractions("1/2 3")
        first.clear()
        self.assertEqual(read_fractions("1/2 3"), [(1, 2), (3, 1)])


class Refused(unittest.TestCase):

    def refused(self, tell, thing):
        with self.subTest(tell=tell.__name__, thing=thing):
            with self.assertRaises(NoText) as caught:
                tell(thing)
            self.assertIs(type(caught.exception), NoText)

    def test_nothing_written(self):
        for text in NOTHING:
            self.refused(read_row, text)
            self.refused(read_fractions, text)

    def test_no_fractions(self):
        for text in NO_FRACTIONS:
            self.refused(read_row, text)
            self.refused(read_fractions, text)

    def test_fractions_are_no_row(self):
        for fractions, text in WRITTEN_FRACTIONS:
            if "/" in text:
                self.refused(read_row, text)

    def test_no_text(self):
        for thing in no_texts():
            self.refused(read_row, thing)
            self.refused(read_fractions, thing)

    def test_each_sign_put_into_a_writing(self):
        right = set("0123456789")
        for sign in map(chr, list(range(32, 127)) + [9, 10, 13, 0x661, 0xb2]):
            if sign not in right and sign != " ":
                self.refused(read_row, f"12{sign}34")
                self.refused(read_row, f"12 34{sign}")
                if sign != "/":
                    self.refused(read_fractions, f"12{sign}34")
                self.refused(read_fractions, f"12 34{sign}")
                if sign != "-":
                    self.refused(read_row, f"{sign}12 34")
                    self.refused(read_fractions, f"{sign}12 34")


if __name__ == "__main__":
    unittest.main()
