"""Bounds, and how many rows that bend one way are within them."""

from onebend.errors import NoBounds
from onebend.exact import is_whole

MOST_BOUNDS = 10
MOST_ABOVE_LO = 12


def is_bound(thing):
    if not isinstance(thing, tuple) or len(thing) != 2:
        return False
    lo, hi = thing
    return is_whole(lo) and is_whole(hi) and lo <= hi <= lo + MOST_ABOVE_LO


def are_bounds(thing):
    if not isinstance(thing, list) or not 1 <= len(thing) <= MOST_BOUNDS:
        return False
    return all(is_bound(part) for part in thing)


def check_bounds(bounds):
    if not are_bounds(bounds):
        raise NoBounds("bounds are a list of one to ten tuples (lo, hi), hi from lo to lo plus twelve")


# How a row may go on hangs on its last two numbers alone. So all rows with the same two are
# reckoned as one: these two, or as many as there are yet, are called the tail.


def tails_ahead_of(bounds, place):
    """Every tail that a row within the bounds may have ahead of a place."""
    tails = [()]
    for lo, hi in bounds[max(0, place - 2):place]:
        tails = [(*tail, number) for tail in tails for number in range(lo, hi + 1)]
    return tails


def tail_with(tail, number):
    longer = (*tail, number)
    return longer[-2:]


def next_numbers(tail, bound):
    """The numbers within a bound, rising, that may come behind a tail."""
    lo, hi = bound
    if len(tail) == 2:
        lo = max(lo, tail[1] + (tail[1] - tail[0]))
    return list(range(lo, hi + 1))


def ways_at_each_place(bounds):
    """For each place, and the end: in how many ways a row goes on from there, by the tail ahead."""
    behind = {tail: 1 for tail in tails_ahead_of(bounds, len(bounds))}
    ways = [behind]
    for place in reversed(range(len(bounds))):
        ahead = {}
        for tail in tails_ahead_of(bounds, place):
            numbers = next_numbers(tail, bounds[place])
            ahead[tail] = sum(behind[tail_with(tail, number)] for number in numbers)
        ways.append(ahead)
        behind = ahead
    return ways[::-1]


def how_many_within(bounds):
    check_bounds(bounds)
    ways = ways_at_each_place(bounds)
    return ways[0][()]


def is_there_one(bounds):
    return how_many_within(bounds) > 0
