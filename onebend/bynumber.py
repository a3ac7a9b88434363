"""The rows that bend one way within bounds, by their numbers."""

from onebend.counted import check_bounds, next_numbers, tail_with, ways_at_each_place
from onebend.errors import NoFit, NoNumber
from onebend.exact import is_whole
from onebend.rows import bends_one_way, is_row


def is_bent_row_within(bounds, thing):
    if not is_row(thing) or len(thing) != len(bounds):
        return False
    for number, (lo, hi) in zip(thing, bounds):
        if not lo <= number <= hi:
            return False
    return bends_one_way(thing)


def nth_within(bounds, i):
    check_bounds(bounds)
    ways = ways_at_each_place(bounds)
    if not is_whole(i) or not 0 <= i < ways[0][()]:
        raise NoNumber("no row that bends one way within the bounds has this number")
    told, left = [], i
    for place, bound in enumerate(bounds):
        tail = tuple(told[-2:])
        for number in next_numbers(tail, bound):
            many = ways[place + 1][tail_with(tail, number)]
            if left < many:
                told.append(number)
                break
            left -= many
    return told


def number_of(bounds, numbers):
    check_bounds(bounds)
    if not is_bent_row_within(bounds, numbers):
        raise NoFit("this is no row that bends one way within the bounds")
    ways = ways_at_each_place(bounds)
    rows_ahead, tail = 0, ()
    for place, bound in enumerate(bounds):
        for number in next_numbers(tail, bound):
            if number < numbers[place]:
                rows_ahead += ways[place + 1][tail_with(tail, number)]
        tail = tail_with(tail, numbers[place])
    return rows_ahead
