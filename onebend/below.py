"""The greatest row that bends one way and is nowhere above a row."""

from onebend.exact import in_least_numbers
from onebend.rows import check_row


def line_at(numbers, first, last, place):
    """The line from the number at first to the number at last, at a place: top and bottom."""
    top = numbers[first] * (last - place) + numbers[last] * (place - first)
    return (top, last - first)


def above_line(numbers, first, last, place):
    """What the number at a place is above the line, perhaps below 0: top and bottom."""
    top, bottom = line_at(numbers, first, last, place)
    return (numbers[place] * bottom - top, bottom)


def is_under_line(numbers, first, last, place):
    top, bottom = above_line(numbers, first, last, place)
    return top < 0


def corner_places(numbers):
    """The places between which the greatest row below runs in straight lines."""
    corners = []
    for place in range(len(numbers)):
        while len(corners) > 1 and not is_under_line(numbers, corners[-2], place, corners[-1]):
            corners.pop()
        corners.append(place)
    return corners


def greatest_below(numbers):
    check_row(numbers)
    corners = corner_places(numbers)
    told = [(numbers[0], 1)]
    for first, last in zip(corners, corners[1:]):
        for place in range(first + 1, last + 1):
            top, bottom = line_at(numbers, first, last, place)
            told.append(in_least_numbers(top, bottom))
    return told


def touching_places(numbers):
    below = greatest_below(numbers)
    return [place for place in range(len(numbers)) if below[place] == (numbers[place], 1)]
