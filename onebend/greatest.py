"""The nearest row that bends one way by the greatest difference, and three places that show it."""

from onebend.below import above_line, greatest_below
from onebend.errors import NoPlace
from onebend.exact import add, in_least_numbers, is_less
from onebend.rows import are_rising_places, check_row


def rising_threes(many):
    """Every tuple of three places of a row of so many numbers, rising, in their order as tuples."""
    return [
        (first, middle, last)
        for first in range(many)
        for middle in range(first + 1, many)
        for last in range(middle + 1, many)
    ]


def shown_by(numbers, places):
    first, middle, last = places
    top, bottom = above_line(numbers, first, last, middle)
    return in_least_numbers(max(0, top), 2 * bottom)


def three_that_show(numbers):
    check_row(numbers)
    most, told = (0, 1), None
    for places in rising_threes(len(numbers)):
        shown = shown_by(numbers, places)
        if is_less(most, shown):
            most, told = shown, places
    return told


def least_greatest(numbers):
    places = three_that_show(numbers)
    if places is None:
        return (0, 1)
    return shown_by(numbers, places)


def nearest_by_greatest(numbers):
    # The row is above the greatest row below it by at most twice the least: half of that
    # put to it leaves the row as much above it as below it.
    least = least_greatest(numbers)
    return [add(part, least) for part in greatest_below(numbers)]


def what_three_show(numbers, places):
    check_row(numbers)
    if not isinstance(places, tuple) or len(places) != 3 or not are_rising_places(places, numbers):
        raise NoPlace("three places are a tuple of places of the row, rising")
    return shown_by(numbers, places)
