"""Rows of numbers and of fractions: how they bend, and how far apart two are."""

from onebend.errors import NoFit, NoMeasure, NoNumbers
from onebend.exact import in_least_numbers, is_fraction, is_whole, shared_bottom, tops_over

MOST_NUMBERS = 12


def is_list_of_row_length(thing):
    return isinstance(thing, list) and 1 <= len(thing) <= MOST_NUMBERS


def is_row(thing):
    return is_list_of_row_length(thing) and all(is_whole(number) for number in thing)


def is_row_of_fractions(thing):
    return is_list_of_row_length(thing) and all(is_fraction(part) for part in thing)


def check_row(numbers):
    if not is_row(numbers):
        raise NoNumbers("a row is a list of one to twelve whole numbers")


def check_row_of_fractions(fractions):
    if not is_row_of_fractions(fractions):
        raise NoNumbers("a row of fractions is a list of one to twelve fractions")


def are_rising_places(things, numbers):
    """Whether the things in a list or tuple are places of the row, each above the one ahead."""
    if not all(is_whole(thing) and 0 <= thing < len(numbers) for thing in things):
        return False
    return all(step > 0 for step in differences(things))


def differences(numbers):
    """What each number but the first is above the one ahead of it."""
    return [number - ahead for ahead, number in zip(numbers, numbers[1:])]


def steps_of(numbers):
    check_row(numbers)
    return differences(numbers)


def bends_of(numbers):
    check_row(numbers)
    return differences(differences(numbers))


def bends_one_way(numbers):
    return first_wrong(numbers) is None


def first_wrong(numbers):
    for at, bend in enumerate(bends_of(numbers)):
        if bend < 0:
            # The first bend stands at the second number.
            return at + 1
    return None


def are_bent_fractions(thing):
    if not is_row_of_fractions(thing):
        return False
    # Over one bottom the fractions bend as their tops do.
    tops = tops_over(thing, shared_bottom(thing))
    return all(bend >= 0 for bend in differences(differences(tops)))


def greatest_gap(gaps, bottom):
    return in_least_numbers(max(gaps), bottom)


def changed_places(gaps, bottom):
    return (len([gap for gap in gaps if gap != 0]), 1)


def sum_of_gaps(gaps, bottom):
    return in_least_numbers(sum(gaps), bottom)


def sum_of_squares(gaps, bottom):
    return in_least_numbers(sum(gap * gap for gap in gaps), bottom * bottom)


MEASURES = {
    "greatest": greatest_gap,
    "changed": changed_places,
    "sum": sum_of_gaps,
    "squares": sum_of_squares,
}


def check_measure(measure):
    # A list or a dict can't be looked up among keys, so a text is asked for first.
    if not isinstance(measure, str) or measure not in MEASURES:
        raise NoMeasure("a measure is greatest, changed, sum or squares")


def how_far(measure, numbers, fractions):
    check_row(numbers)
    check_row_of_fractions(fractions)
    check_measure(measure)
    if len(numbers) != len(fractions):
        raise NoFit("the row and the row of fractions are not of one length")
    bottom = shared_bottom(fractions)
    tops = tops_over(fractions, bottom)
    gaps = [abs(number * bottom - top) for number, top in zip(numbers, tops)]
    measured = MEASURES[measure]
    return measured(gaps, bottom)
