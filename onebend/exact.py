"""Whole numbers and fractions: what they are, and reckoning with them."""


def is_whole(thing):
    # A truth is an int to Python, but no whole number.
    return isinstance(thing, int) and not isinstance(thing, bool)


def greatest_divisor(one, other):
    """The greatest number that divides both, which are not both 0."""
    one, other = abs(one), abs(other)
    while other != 0:
        one, other = other, one % other
    return one


def is_fraction(thing):
    if not isinstance(thing, tuple) or len(thing) != 2:
        return False
    top, bottom = thing
    if not is_whole(top) or not is_whole(bottom) or bottom < 1:
        return False
    return greatest_divisor(top, bottom) == 1


def in_least_numbers(top, bottom):
    """The fraction that is top by bottom, a bottom above 0."""
    divisor = greatest_divisor(top, bottom)
    return (top // divisor, bottom // divisor)


def shared_bottom(fractions):
    """The least number that every bottom divides."""
    shared = 1
    for top, bottom in fractions:
        shared = shared // greatest_divisor(shared, bottom) * bottom
    return shared


def tops_over(fractions, shared):
    """The tops of the fractions when all are written over one shared bottom."""
    return [top * (shared // bottom) for top, bottom in fractions]
