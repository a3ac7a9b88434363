"""Promises 20 and 21: what is said to a desk, and what it refuses."""

import random
import unittest

from onebend.below import greatest_below
from onebend.changed import fewest_changed
from onebend.desk import Desk
from onebend.errors import NoName, NoNumber, NoRow, NoText, TooMany
from onebend.greatest import least_greatest
from onebend.rows import bends_one_way
from onebend.squares import nearest_by_squares
from onebend.sums import nearest_by_sum
from onebend.texts import show_fractions, show_row

from nearest_samples import GREAT, drawn_rows, other_things
from samples import ROWS

WITH_A_NAME = ["cut", "drop", "show", "bends", "below", "greatest", "sum", "squares", "stay"]
WITH_NUMBERS = ["row", "put"]
WORDS = WITH_A_NAME + WITH_NUMBERS + ["names"]

NO_NAMES = [
    "", "A", "Ab", "aB", "abcdefghi", "abcdefghijkl", "a1", "1", "a_b", "a-b", "a.", ".", "_", "a\t", "\ta", "a\n",
    "\n", "[", "{", "`", "@", "z{", "~", "a!", "\u00e4", "\u03b1", "a\u0301", "\u00aa",
]

NO_WRITING = [
    "", " ", "1  2", " 1", "1 ", "01", "-0", "+1", "x", "1 x", "1/2", "1,2", "1.0", "1\t2", "1\n", "\n1", "--1",
    "-", "1 2\t", "1 2 ", " 1 2", "1 02", "show", "1 2 3 a",
]


def asked_of(numbers, word):
    """What the stages tell where a desk is asked of such a row."""
    if word == "show":
        return show_row(numbers)
    if word == "bends":
        return "yes" if bends_one_way(numbers) else "no"
    if word == "below":
        return show_fractions(greatest_below(numbers))
    if word == "greatest":
        return show_fractions([least_greatest(numbers)])
    if word == "sum":
        return show_fractions([nearest_by_sum(numbers)[0]])
    if word == "squares":
        return show_fractions([nearest_by_squares(numbers)[0]])
    return show_row(fewest_changed(numbers)[1])


ASKINGS = ["show", "bends", "below", "greatest", "sum", "squares", "stay"]


class DeskCase(unittest.TestCase):

    def setUp(self):
        self.desk = Desk()

    def said(self, row, due):
        with self.subTest(row=row):
            told = self.desk.say(row)
            self.assertIs(type(told), str)
            self.assertEqual(told, due)

    def refused(self, error, row):
        ahead = self.all_told()
        with self.subTest(row=row):
            with self.assertRaises(error) as caught:
                self.desk.say(row)
            self.assertIs(type(caught.exception), error)
            self.assertEqual(self.all_told(), ahead)

    def all_told(self):
        """All rows with their names, as the desk tells them."""
        return [(name, self.desk.say("show " + name)) for name in self.desk.names()]


class Said(DeskCase):

    def test_told_by_hand(self):
        for row, due in [
            ("names", "none"),
            ("row a 1 5 2", "ok"),
            ("put a 9", "ok"),
            ("show a", "1 5 2 9"),
            ("bends a", "no"),
            ("below a", "1 3/2 2 9"),
            ("greatest a", "7/4"),
            ("sum a", "7/2"),
            ("squares a", "49/6"),
            ("stay a", "0 2 3"),
            ("names", "a"),
            ("cut a", "ok"),
            ("show a", "1 5 2"),
            ("row b -3", "ok"),
            ("names", "a b"),
            ("bends b", "yes"),
            ("below b", "-3"),
            ("greatest b", "0"),
            ("sum b", "0"),
            ("squares b", "0"),
            ("stay b", "0"),
            ("put b -4", "ok"),
            ("show b", "-3 -4"),
            ("drop a", "ok"),
            ("names", "b"),
            ("row b 0 3 0", "ok"),
            ("show b", "0 3 0"),
            ("greatest b", "3/2"),
            ("sum b", "3"),
            ("squares b", "6"),
            ("drop b", "ok"),
            ("names", "none"),
        ]:
            self.said(row, due)

    def check_askings(self, name, numbers):
        for word in ASKINGS:
            if word in ["sum", "squares"] and len(numbers) > 8:
                self.refused(TooMany, f"{word} {name}")
            else:
                self.said(f"{word} {name}", asked_of(numbers, word))

    def test_what_the_stages_tell(self):
        for numbers in ROWS + list(drawn_rows(6, 12)):
            self.said("row a " + " ".join(map(str, numbers)), "ok")
            self.check_askings("a", numbers)

    def test_names(self):
        self.assertEqual(self.desk.names(), [])
        for name in ["m", "abcdefgh", "a", "zz", "ab", "b", "z", "aa", "aaaaaaaa", "za"]:
            self.said(f"row {name} 1 2", "ok")
        due = ["a", "aa", "aaaaaaaa", "ab", "abcdefgh", "b", "m", "z", "za", "zz"]
        self.assertEqual(self.desk.names(), due)
        self.said("names", " ".join(due))
        self.said("drop ab", "ok")
        self.said("drop zz", "ok")
        due = ["a", "aa", "aaaaaaaa", "abcdefgh", "b", "m", "z", "za"]
        self.assertEqual(self.desk.names(), due)
        self.said("names", " ".join(due))

    def test_names_are_told_in_a_new_list(self):
        self.desk.say("row b 1")
        self.desk.say("row a 1")
        first = self.desk.names()
        self.assertIs(type(first), list)
        first.append("c")
        first.remove("a")
        self.assertEqual(self.desk.names(), ["a", "b"])
        self.assertIsNot(self.desk.names(), self.desk.names())
        self.said("names", "a b")
        first.clear()
        self.assertEqual(self.desk.names(), ["a", "b"])

    def test_names_that_are_words_of_the_desk(self):
        for at, word in enumerate(WORDS + ["none", "ok", "yes", "no"]):
            self.said(f"row {word} {at} 40 2", "ok")
        for at, word in enumerate(WORDS + ["none", "ok", "yes", "no"]):
            self.check_askings(word, [at, 40, 2])
            self.said(f"put {word} 7", "ok")
            self.said(f"show {word}", f"{at} 40 2 7")
            self.said(f"cut {word}", "ok")
        self.said("names", " ".join(sorted(WORDS + ["none", "ok", "yes", "no"])))
        self.said("drop drop", "ok")
        self.refused(NoName, "drop drop")
        self.said("drop names", "ok")
        self.refused(NoName, "show names")

    def test_every_letter_and_length_of_a_name(self):
        for letter in "abcdefghijklmnopqrstuvwxyz":
            self.said(f"row {letter} 1", "ok")
            self.said(f"drop {letter}", "ok")
        for many in range(1, 9):
            self.said("row " + "q" * many + " 5 6", "ok")
            self.said("show " + "q" * many, "5 6")

    def test_a_row_in_the_place_of_one_that_stands(self):
        self.said("row a 1 2 3", "ok")
        self.said("row b 1 2 3", "ok")
        self.said("row a 9 9", "ok")
        self.said("show a", "9 9")
        self.said("show b", "1 2 3")
        self.said("names", "a b")
        self.said("cut a", "ok")
        self.refused(NoNumber, "cut a")

    def test_to_twelve_and_back_to_one(self):
        self.said("row a 0", "ok")
        for number in range(1, 12):
            self.said(f"put a {number}", "ok")
        self.refused(TooMany, "put a 12")
        self.said("show a", "0 1 2 3 4 5 6 7 8 9 10 11")
        for number in range(11):
            self.said("cut a", "ok")
        self.refused(NoNumber, "cut a")
        self.said("show a", "0")

    def test_numbers_of_many_figures(self):
        great = "9" * 30
        self.said(f"row a {GREAT} -{GREAT} 0", "ok")
        self.said(f"put a {great}", "ok")
        self.said(f"put a -{great}", "ok")
        self.said("show a", f"{GREAT} -{GREAT} 0 {great} -{great}")

    def test_two_desks_beside_one_another(self):
        other = Desk()
        self.said("row a 1 2", "ok")
        self.assertEqual(other.names(), [])
        self.assertEqual(other.say("names"), "none")
        self.assertRaises(NoName, other.say, "show a")
        other.say("row a 5")
        other.say("row b 6")
        other.say("put a 7")
        self.said("show a", "1 2")
        self.said("names", "a")
        self.said("cut a", "ok")
        self.assertEqual(other.say("show a"), "5 7")
        self.said("drop a", "ok")
        self.assertEqual(other.say("names"), "a b")

    def test_many_deeds(self):
        chance = random.Random(20)
        rows = {}
        names = ["a", "b", "row", "abcdefgh"]
        for deed in range(1500):
            self.deed(chance, rows, chance.choice(names))
            self.assertEqual(self.desk.names(), sorted(rows))
            self.said("names", " ".join(sorted(rows)) or "none")
            self.assertEqual(self.all_told(), [(name, show_row(rows[name])) for name in sorted(rows)])

    def deed(self, chance, rows, name):
        word = chance.choice(["row", "put", "put", "put", "cut", "cut", "drop"] + ASKINGS)
        numbers = rows.get(name)
        if word == "row":
            rows[name] = [chance.randint(-9, 9) for at in range(chance.choice([1, 2, 7, 8, 9, 11, 12]))]
            self.said(f"row {name} " + show_row(rows[name]), "ok")
        elif numbers is None:
            self.refused(NoName, f"put {name} 4" if word == "put" else f"{word} {name}")
        elif word == "put" and len(numbers) == 12:
            self.refused(TooMany, f"put {name} 4")
        elif word == "put":
            numbers.append(chance.randint(-9, 9))
            self.said(f"put {name} {numbers[-1]}", "ok")
        elif word == "cut" and len(numbers) == 1:
            self.refused(NoNumber, f"cut {name}")
        elif word in ["sum", "squares"] and len(numbers) > 8:
            self.refused(TooMany, f"{word} {name}")
        elif word == "cut":
            numbers.pop()
            self.said(f"cut {name}", "ok")
        elif word == "drop":
            del rows[name]
            self.said(f"drop {name}", "ok")
        else:
            self.said(f"{word} {name}", asked_of(numbers, word))


class NoRows(DeskCase):

    def setUp(self):
        self.desk = Desk()
        self.desk.say("row a 1 5 2")
        self.desk.say("row b 7")
        self.desk.say("row full " + " ".join(["1"] * 12))

    def test_no_text(self):
        for thing in other_things():
            self.refused(NoRow, thing)
        for thing in [["names"], ("names",), b"names", ["show", "a"], {"show": "a"}, b"show a"]:
            self.refused(NoRow, thing)

    def test_words_the_desk_does_not_know(self):
        for row in [
            "", " ", "a", "b", "none", "ok", "help", "shows a", "sho a", "show", "Show a", "SHOW a", "rows a 1",
            "ro a 1", "Row a 1", "puts a 1", "Put a 1", "Names", "NAMES", "name", "namess", "names a",
            "names names", "a show", "say show a", "get a", "set a 1", "delete a", "least a", "changed a",
            "steps a", "wrong", "show\ta", "show\na", "names\n", "\nnames", "names\t", "1", "1 2 3", "row", "put",
            "cut", "stay", "squares", "square a", "great a", "none a", "row:a 1", "show,a", "show a,b", "show a;",
        ]:
            self.refused(NoRow, row)

    def test_a_blank_more_or_less(self):
        for word in WITH_A_NAME:
            for row in [
                f" {word} a", f"{word}  a", f"{word} a ", f"{word}a", f"{word}", f"{word} ", f" {word}", f"{word}   a",
                f"{word} a  ", f"  {word} a", f"{word}\ta", f"{word} a\n", f"{word}  ",
            ]:
                self.refused(NoRow, row)
        for row in [" names", "names ", "  names", "names  ", "na mes"]:
            self.refused(NoRow, row)
        for word in WITH_NUMBERS:
            for row in [
                f" {word} a 1", f"{word}  a 1", f"{word}a 1", f"{word}", f"{word} ", f"{word} a", f"{word}  ",
                f"{word}   1", f"{word}  1", f"{word} a1", f"{word}\ta 1", f"{word} a\t1", f"{word} a\n1", f" {word} a",
            ]:
                self.refused(NoRow, row)

    def test_a_word_more_or_less(self):
        for word in WITH_A_NAME:
            for row in [
                word, f"{word} a b", f"{word} a a", f"{word} a 1", f"a {word}", f"{word} {word} a", f"a {word} a",
            ]:
                self.refused(NoRow, row)
        for word in WITH_NUMBERS:
            for row in [word, f"{word} 1", f"{word} 1 a", f"{word} 1 2", f"a {word} 1"]:
                self.refused(NoRow, row)

    def test_great_letters(self):
        for word in WITH_A_NAME:
            for row in [f"{word.upper()} a", f"{word.title()} a", f"{word[:-1] + word[-1].upper()} a", f"{word} A"]:
                self.refused(NoRow, row)
        for word in WITH_NUMBERS:
            for row in [f"{word.upper()} a 1", f"{word.title()} a 1", f"{word} A 1", f"{word} aA 1"]:
                self.refused(NoRow, row)

    def test_no_names(self):
        for name in NO_NAMES:
            for word in WITH_A_NAME:
                self.refused(NoRow, f"{word} {name}")
            for word in WITH_NUMBERS:
                self.refused(NoRow, f"{word} {name} 1")
                # No name goes ahead of no writing.
                self.refused(NoRow, f"{word} {name} x")

    def test_without_the_blank_of_the_numbers(self):
        for word in WITH_NUMBERS:
            for name in ["a", "b", "full", "new", "abcdefgh"]:
                self.refused(NoRow, f"{word} {name}")


class Order(DeskCase):

    def setUp(self):
        self.desk = Desk()
        self.desk.say("row a 1 5 2")
        self.desk.say("row b 7")
        self.desk.say("row full " + " ".join(["1"] * 12))
        self.desk.say("row nine " + " ".join(["1"] * 9))

    def test_no_name(self):
        for word in WITH_A_NAME:
            for name in ["c", "aa", "ab", "fulls", "ful", "none", "row", "names"]:
                self.refused(NoName, f"{word} {name}")
        for writing in ["1", "-5", "0"] + NO_WRITING:
            self.refused(NoName, f"put c {writing}")

    def test_no_writing(self):
        for writing in NO_WRITING:
            for name in ["a", "b", "full"]:
                self.refused(NoText, f"row {name} {writing}")
                self.refused(NoText, f"put {name} {writing}")
            self.refused(NoText, f"row new {writing}")

    def test_rows_and_numbers_that_are_too_long(self):
        self.refused(NoText, "row a " + " ".join(["1"] * 13))
        self.refused(NoText, "row new " + " ".join(["1"] * 13))
        self.refused(NoText, "put a 1 2")
        self.refused(NoText, "put full 1 2")
        self.refused(NoText, "put b " + " ".join(["1"] * 12))

    def test_no_text_goes_ahead_of_too_many(self):
        for writing in NO_WRITING:
            self.refused(NoText, f"put full {writing}")
        self.refused(TooMany, "put full 1")
        self.refused(TooMany, "put full -1")

    def test_as_the_stages_refuse(self):
        self.refused(NoNumber, "cut b")
        for name in ["full", "nine"]:
            self.refused(TooMany, f"sum {name}")
            self.refused(TooMany, f"squares {name}")
            self.said(f"greatest {name}", "0")
        self.said("cut nine", "ok")
        self.said("sum nine", "0")
        self.said("squares nine", "0")

    def test_dropped_is_no_name(self):
        self.said("drop a", "ok")
        for word in WITH_A_NAME:
            self.refused(NoName, f"{word} a")
        self.refused(NoName, "put a 1")
        self.said("row a 3", "ok")
        self.said("show a", "3")

    def test_a_refused_row_leaves_the_one_that_stands(self):
        self.refused(NoText, "row a 1 2 x")
        self.said("show a", "1 5 2")
        self.refused(NoText, "row new 1 2 x")
        self.refused(NoName, "show new")

    def test_its_own_methods(self):
        for name in ["say", "names"]:
            self.assertIn(name, vars(Desk))


if __name__ == "__main__":
    unittest.main()
