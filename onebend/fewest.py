"""The fewest bends that a row within bounds has."""

from onebend.counted import check_bounds, next_numbers, tail_with, tails_ahead_of


def new_bends(tail, number):
    """How many bends above 0 a number makes that comes behind a tail: none or one."""
    if len(tail) < 2:
        return 0
    return 1 if number - tail[1] > tail[1] - tail[0] else 0


def best_from(bounds, place, behind):
    """By the tail ahead of a place: the fewest bends from there on, with the first rest of a row.

    Behind tells the same of the next place. A tail from which no row goes on is left out.
    """
    ahead = {}
    for tail in tails_ahead_of(bounds, place):
        choices = []
        for number in next_numbers(tail, bounds[place]):
            if tail_with(tail, number) in behind:
                many, rest = behind[tail_with(tail, number)]
                choices.append((new_bends(tail, number) + many, [number, *rest]))
        if choices:
            # The least tuple has the fewest bends, and of several rests the first as lists are.
            ahead[tail] = min(choices)
    return ahead


def fewest_bends(bounds):
    check_bounds(bounds)
    best = {tail: (0, []) for tail in tails_ahead_of(bounds, len(bounds))}
    for place in reversed(range(len(bounds))):
        best = best_from(bounds, place, best)
    return best.get(())
