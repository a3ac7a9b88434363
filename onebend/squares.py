"""The nearest row that bends one way by the sum of the squares of the differences."""

from onebend.exact import Table, in_least_numbers, shared_bottom, tops_over
from onebend.rows import are_bent_fractions, check_row, differences
from onebend.sums import WEIGHT, check_not_many, inner_places, prices_of_weights, show_something

# The amounts of a table here: the weights, from 0 on, of which what the row is above the nearest
# one is made, as prices are; and the nearest row's bends with the other sign (LESS_BEND), so never
# above 0.
LESS_BEND = 1

# What the weight of one place puts to the bends there, at the next place and at the one behind it.
PUT_TO_BENDS = (6, -4, 1)


def put_to_bend(place, other):
    """What the weight of a place puts to the bend at another."""
    away = abs(place - other)
    return PUT_TO_BENDS[away] if away < len(PUT_TO_BENDS) else 0


def table_of_weights(numbers):
    lines = []
    inner = inner_places(numbers)
    for place, bend in zip(inner, differences(differences(numbers))):
        lines.append([put_to_bend(other, place) for other in inner] + [-bend])
    return Table(lines, [(LESS_BEND, place) for place in inner], [(WEIGHT, place) for place in inner])


def is_amiss(name, amount):
    kind, place = name
    return amount < 0 if kind == WEIGHT else amount > 0


def first_amiss(table):
    """The first line whose amount is not as it must be, or None."""
    for at, line in enumerate(table.lines):
        if is_amiss(table.beside[at], line[-1]):
            return at
    return None


def put_right(table):
    # At each place the weight or the bend is 0. Which of them is changed over at the first place
    # that is amiss, and so on: no choice ever comes again, so this ends (Murty's rule).
    at = first_amiss(table)
    while at is not None:
        table.exchange(at, at)
        at = first_amiss(table)


def nearest_by_squares(numbers):
    check_row(numbers)
    check_not_many(numbers)
    table = table_of_weights(numbers)
    put_right(table)
    bottom = table.bottom
    gaps = prices_of_weights(table, len(numbers))
    fractions = [in_least_numbers(number * bottom - gap, bottom) for number, gap in zip(numbers, gaps)]
    return (in_least_numbers(sum(gap * gap for gap in gaps), bottom * bottom), fractions)


def is_nearest_by_squares(numbers, fractions):
    check_row(numbers)
    if not are_bent_fractions(fractions) or len(fractions) != len(numbers):
        return False
    bottom = shared_bottom(fractions)
    tops = tops_over(fractions, bottom)
    gaps = [number * bottom - top for number, top in zip(numbers, tops)]
    return show_something(gaps) and sum(gap * top for gap, top in zip(gaps, tops)) == 0
