"""The writing of rows and of rows of fractions, and how it is read back."""

from onebend.errors import NoText
from onebend.exact import is_fraction
from onebend.rows import MOST_NUMBERS, check_row

FIGURES = "0123456789"
FIGURES_OF_A_PART = 60
PART = 10 ** 60


def show_whole(number):
    # Python writes, and reads, only so many figures at once; a told number may have more.
    parts = []
    rest = abs(number)
    while rest >= PART:
        parts.append(str(rest % PART).zfill(FIGURES_OF_A_PART))
        rest = rest // PART
    parts.append(str(rest))
    return ("-" if number < 0 else "") + "".join(parts[::-1])


def show_row(numbers):
    check_row(numbers)
    return " ".join(show_whole(number) for number in numbers)


def show_fraction(fraction):
    top, bottom = fraction
    return show_whole(top) if bottom == 1 else show_whole(top) + "/" + show_whole(bottom)


def show_fractions(fractions):
    return " ".join(show_fraction(fraction) for fraction in fractions)


def writes_figures(text):
    """Whether a text is 0, or figures of which the first is not 0."""
    # Python counts the figures of other scripts as digits too, so they are looked up here.
    if text == "" or not all(sign in FIGURES for sign in text):
        return False
    return text == "0" or text[0] != "0"


def writes_whole(text):
    return text != "-0" and writes_figures(text.removeprefix("-"))


def read_whole(text):
    """The whole number that a text writes."""
    if not writes_whole(text):
        raise NoText("this writes no whole number")
    number = 0
    for sign in text.removeprefix("-"):
        number = number * 10 + int(sign)
    return -number if text.startswith("-") else number


def read_fraction(text):
    """The fraction that a text writes."""
    top, stroke, bottom = text.partition("/")
    if stroke == "":
        return (read_whole(top), 1)
    fraction = (read_whole(top), read_whole(bottom))
    if bottom == "1" or not is_fraction(fraction):
        raise NoText("this writes no fraction in lowest terms")
    return fraction


def words_of(text):
    """What stands between the blanks of a text, as many words as a row may have numbers."""
    if not isinstance(text, str):
        raise NoText("only a text writes a row")
    words = text.split(" ")
    if len(words) > MOST_NUMBERS:
        raise NoText("a row has at most twelve numbers")
    return words


def read_row(text):
    return [read_whole(word) for word in words_of(text)]


def read_fractions(text):
    return [read_fraction(word) for word in words_of(text)]
