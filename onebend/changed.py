"""The nearest row that bends one way by how many places are changed."""

from onebend.below import above_line, line_at
from onebend.errors import NoFit, NoPlace
from onebend.exact import in_least_numbers
from onebend.rows import are_rising_places, check_row


def check_places(numbers, places):
    if not isinstance(places, list) or not are_rising_places(places, numbers):
        raise NoPlace("places are a list of places of the row, rising")


def is_above(numbers, first, middle, last):
    """Whether the middle number is above the line of the other two."""
    top, bottom = above_line(numbers, first, last, middle)
    return top > 0


def can_all_stay(numbers, places):
    # Where no kept number is above the line of its two kept neighbours, the lines between
    # them bend one way.
    for first, middle, last in zip(places, places[1:], places[2:]):
        if is_above(numbers, first, middle, last):
            return False
    return True


def first_of_longest(lists):
    return min(lists, key=lambda places: (-len(places), places))


def longest_by_beginning(numbers):
    """By two places: of the lists that begin with them and can stay, the first of the longest."""
    # How a list may go on hangs on its last two places alone, so the lists are made from the end.
    many = len(numbers)
    longest = {}
    for first in reversed(range(many)):
        for second in range(first + 1, many):
            lists = [[first, second]]
            for third in range(second + 1, many):
                if not is_above(numbers, first, second, third):
                    lists.append([first, *longest[(second, third)]])
            longest[(first, second)] = first_of_longest(lists)
    return longest


def fewest_changed(numbers):
    check_row(numbers)
    longest = longest_by_beginning(numbers)
    places = first_of_longest([[0], *list(longest.values())])
    return (len(numbers) - len(places), places)


def can_stay(numbers, places):
    check_row(numbers)
    check_places(numbers, places)
    return can_all_stay(numbers, places)


def line_near(places, place):
    """The two neighbours among the kept places whose line the told row follows at a place."""
    for first, last in zip(places, places[1:]):
        if place <= last:
            return (first, last)
    return (places[-2], places[-1])


def bent_with(numbers, places):
    if not can_stay(numbers, places):
        raise NoFit("these places can't all stay")
    if len(places) < 2:
        level = numbers[places[0]] if places else 0
        return [(level, 1) for number in numbers]
    told = []
    for place in range(len(numbers)):
        first, last = line_near(places, place)
        top, bottom = line_at(numbers, first, last, place)
        told.append(in_least_numbers(top, bottom))
    return told
