"""A desk with rows by names, to which rows of words are said."""

from onebend.below import greatest_below
from onebend.errors import NoName, NoRow
from onebend.keeper import Keeper
from onebend.squares import nearest_by_squares
from onebend.sums import nearest_by_sum
from onebend.texts import read_row, read_whole, show_fraction, show_fractions, show_row

LETTERS = "abcdefghijklmnopqrstuvwxyz"
LONGEST_NAME = 8


def is_name(text):
    return 1 <= len(text) <= LONGEST_NAME and all(sign in LETTERS for sign in text)


def tell_row(keeper):
    return show_row(keeper.row())


def tell_bends(keeper):
    return "yes" if keeper.bends_one_way() else "no"


def tell_below(keeper):
    return show_fractions(greatest_below(keeper.row()))


def tell_greatest(keeper):
    return show_fraction(keeper.least_greatest())


def tell_sum(keeper):
    least, fractions, prices = nearest_by_sum(keeper.row())
    return show_fraction(least)


def tell_squares(keeper):
    least, fractions = nearest_by_squares(keeper.row())
    return show_fraction(least)


def tell_stay(keeper):
    many, places = keeper.fewest_changed()
    return show_row(places)


def take_last(keeper):
    keeper.back()
    return "ok"


# What is said with a name alone, of a row that stands by it.
WITH_A_NAME = {
    "cut": take_last,
    "show": tell_row,
    "bends": tell_bends,
    "below": tell_below,
    "greatest": tell_greatest,
    "sum": tell_sum,
    "squares": tell_squares,
    "stay": tell_stay,
}


class Desk:
    """Rows by names, each with a Keeper of its own."""

    def __init__(self):
        self.keepers = {}

    def names(self):
        return sorted(self.keepers)

    def say(self, row):
        if not isinstance(row, str):
            raise NoRow("only a text can be said to a desk")
        if row == "names":
            return self.tell_names()
        word, blank, rest = row.partition(" ")
        if word in ("row", "put"):
            return self.say_with_numbers(word, rest)
        if (word == "drop" or word in WITH_A_NAME) and is_name(rest):
            return self.say_with_name(word, rest)
        raise NoRow("the desk knows no such row of words")

    def tell_names(self):
        if not self.keepers:
            return "none"
        return " ".join(self.names())

    def say_with_name(self, word, name):
        keeper = self.keeper_of(name)
        if word == "drop":
            del self.keepers[name]
            return "ok"
        tell = WITH_A_NAME[word]
        return tell(keeper)

    def say_with_numbers(self, word, rest):
        name, blank, writing = rest.partition(" ")
        if blank == "" or not is_name(name):
            raise NoRow("a name of one to eight small letters and a blank must come ahead of the numbers")
        if word == "row":
            self.keepers[name] = Keeper(read_row(writing))
        else:
            # A name by which none stands is refused ahead of a writing of no number.
            keeper = self.keeper_of(name)
            keeper.put(read_whole(writing))
        return "ok"

    def keeper_of(self, name):
        if name not in self.keepers:
            raise NoName("no row stands by this name")
        return self.keepers[name]
