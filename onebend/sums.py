"""The nearest row that bends one way by the sum of the differences, and prices that show it."""

from onebend.errors import NoPrices, TooMany
from onebend.exact import Table, in_least_numbers, is_fraction, shared_bottom, tops_over
from onebend.rows import check_row, differences

MOST_IN_A_SUM = 8

# The names of a table's amounts are tuples that begin with one of these, with a place behind it.
# WEIGHT is what a bend is weighed with, from 0 on: the prices are made of the weights. OVER is
# what a price may still rise, UNDER what it may still fall, SUM what the prices show.
WEIGHT = 0
OVER = 1
UNDER = 2
SUM = 3


def check_not_many(numbers):
    if len(numbers) > MOST_IN_A_SUM:
        raise TooMany("this is told of a row of at most eight numbers")


def inner_places(numbers):
    """The places at which the bends stand."""
    return list(range(1, len(numbers) - 1))


def part_of_weight(place, inner):
    """How often the price at a place has the weight of an inner place in it."""
    if place == inner:
        return 2
    return -1 if abs(place - inner) == 1 else 0


def table_of_prices(numbers):
    # Prices made of weights from 0 on show something, and every such prices can be made so.
    # Only that each is from -1 to 1 is left to be asked of them.
    lines, beside = [], []
    inner = inner_places(numbers)
    for place in range(len(numbers)):
        parts = [part_of_weight(place, other) for other in inner]
        lines.append(parts + [1])
        lines.append([-part for part in parts] + [1])
        beside.extend([(OVER, place), (UNDER, place)])
    lines.append(differences(differences(numbers)) + [0])
    beside.append((SUM, 0))
    return Table(lines, beside, [(WEIGHT, other) for other in inner])


def column_that_adds(table):
    """The first column, by its name, whose amount makes the sum greater, or None."""
    names = [name for name, part in zip(table.atop, table.lines[-1]) if part < 0]
    if not names:
        return None
    return table.atop.index(min(names))


def is_used_up_first(table, column, at, other):
    """Whether the amount of a line is 0 ahead of another's, as the column's amount grows."""
    line, other_line = table.lines[at], table.lines[other]
    left = line[-1] * other_line[column]
    right = other_line[-1] * line[column]
    return (left, table.beside[at]) < (right, table.beside[other])


def line_that_ends(table, column):
    """The line whose amount is the first to be used up as the column's amount grows."""
    found = None
    for at, line in enumerate(table.lines[:-1]):
        if line[column] > 0 and (found is None or is_used_up_first(table, column, at, found)):
            found = at
    return found


def make_sum_greatest(table):
    # By taking the first name, both of a column and of lines that are used up together, no
    # exchange ever comes again, so this ends (Bland's rule).
    column = column_that_adds(table)
    while column is not None:
        table.exchange(line_that_ends(table, column), column)
        column = column_that_adds(table)


def prices_of_weights(table, many):
    """The prices that the weights in a table make, for so many places, each times the bottom."""
    amounts = table.amounts()
    weights = [amounts.get((WEIGHT, place), 0) for place in range(-1, many + 1)]
    return [-bend for bend in differences(differences(weights))]


def gaps_of(table, many):
    """What the row is above the nearest one at each place, each times the bottom."""
    # What the sum would lose by an amount atop is how far the nearest row is off there.
    losses = {name: part for name, part in zip(table.atop, table.lines[-1])}
    return [losses.get((OVER, place), 0) - losses.get((UNDER, place), 0) for place in range(many)]


def nearest_by_sum(numbers):
    check_row(numbers)
    check_not_many(numbers)
    table = table_of_prices(numbers)
    make_sum_greatest(table)
    bottom = table.bottom
    gaps = gaps_of(table, len(numbers))
    fractions = [in_least_numbers(number * bottom - gap, bottom) for number, gap in zip(numbers, gaps)]
    prices = [in_least_numbers(price, bottom) for price in prices_of_weights(table, len(numbers))]
    return (in_least_numbers(table.lines[-1][-1], bottom), fractions, prices)


def is_price(thing):
    return is_fraction(thing) and abs(thing[0]) <= thing[1]


def are_prices(thing, numbers):
    if not isinstance(thing, list) or len(thing) != len(numbers):
        return False
    return all(is_price(part) for part in thing)


def check_prices(numbers, prices):
    if not are_prices(prices, numbers):
        raise NoPrices("prices are a list of fractions from -1 to 1, one for each number")


def weighed_ahead(prices, place):
    """The sum of the prices ahead of a place, each times how far its place is from it."""
    return sum(price * (place - at) for at, price in enumerate(prices[:place]))


def show_something(prices):
    """Whether prices of any size, over one bottom, show something."""
    if sum(prices) != 0 or sum(price * at for at, price in enumerate(prices)) != 0:
        return False
    return all(weighed_ahead(prices, place) <= 0 for place in range(len(prices)))


def what_prices_show(numbers, prices):
    check_row(numbers)
    check_prices(numbers, prices)
    bottom = shared_bottom(prices)
    tops = tops_over(prices, bottom)
    if not show_something(tops):
        return None
    return in_least_numbers(sum(number * top for number, top in zip(numbers, tops)), bottom)
