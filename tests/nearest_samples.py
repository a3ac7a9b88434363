"""Rows, places and prices for the tests of what is nearest, and reckoning of the tests' own."""

import itertools
import random
from fractions import Fraction

from samples import ROWS, Odd

GREAT = 10 ** 12 - 1


def row_on_a_line(chance, many, far):
    start, step = chance.randint(-far, far), chance.randint(-far, far) // 12
    return [start + step * at for at in range(many)]


def row_near_a_line(chance, many, far):
    return [number + chance.choice([0, 0, 0, 1, -1]) for number in row_on_a_line(chance, many, far)]


def row_by_steps(chance, many, far, turn=1):
    """A row whose steps rise, or, for a turn of -1, fall."""
    most = max(1, far // 12)
    steps = sorted(chance.randint(-most, most) * turn for at in range(many - 1))
    return [turn * number for number in itertools.accumulate(steps, initial=chance.randint(-9, 9))]


def row_with_falling_steps(chance, many, far):
    return row_by_steps(chance, many, far, -1)


def row_by_turns(chance, many, far):
    pair = [chance.randint(-far, far), chance.randint(-far, far)]
    return [pair[at % 2] for at in range(many)]


def row_at_will(chance, many, far):
    return [chance.randint(-far, far) for at in range(many)]


def row_one_off(chance, many, far):
    numbers = row_by_steps(chance, many, far)
    numbers[chance.randrange(many)] += chance.choice([-1, 1]) * chance.randint(1, max(1, far // 12))
    return numbers


KINDS = [
    row_at_will, row_at_will, row_by_turns, row_by_steps, row_with_falling_steps,
    row_on_a_line, row_near_a_line, row_one_off,
]


def drawn_rows(times, most):
    """Rows of every kind, of one to most numbers, small and great; the same ones each time."""
    chance = random.Random(118)
    for time in range(times):
        far = chance.choice([1, 2, 4, 9, 9, 50, 10 ** 6, GREAT])
        for make in KINDS:
            yield make(chance, chance.randint(1, most), far)


def rows_of_at_most(most):
    return [numbers for numbers in ROWS if len(numbers) <= most]


def bent_rows(most):
    """Rows that bend one way."""
    chance = random.Random(7)
    for many in range(1, most + 1):
        yield [chance.randint(-GREAT, GREAT)] * many
        yield [at * at for at in range(-3, many - 3)]
        yield [2 ** at for at in range(many)]
        yield [5 - 3 * at for at in range(many)]
        for far in [3, 40, GREAT]:
            yield row_by_steps(chance, many, far)


def as_number(part):
    return Fraction(*part)


def as_tuple(number):
    number = Fraction(number)
    return (number.numerator, number.denominator)


def own_line(numbers, first, last, place):
    return numbers[first] + Fraction(numbers[last] - numbers[first], last - first) * (place - first)


def own_shown(numbers, places):
    """What three places show, by going along the line."""
    first, middle, last = places
    return max(Fraction(0), (numbers[middle] - own_line(numbers, first, last, middle)) / 2)


def threes(numbers):
    return list(itertools.combinations(range(len(numbers)), 3))


def own_least_greatest(numbers):
    return max([own_shown(numbers, places) for places in threes(numbers)], default=Fraction(0))


def own_gaps(numbers, fractions):
    return [abs(number - as_number(part)) for number, part in zip(numbers, fractions)]


def own_bent(numbers):
    """Whether numbers, perhaps fractions of Python's own, bend one way."""
    return all(
        numbers[at - 1] + numbers[at + 1] >= 2 * numbers[at] for at in range(1, len(numbers) - 1)
    )


def bent_rows_near(numbers, times):
    """Rows of fractions that bend one way, near to a row, as lists of Python's own fractions."""
    chance = random.Random(repr(numbers))
    far = max(numbers) - min(numbers) + 1
    for time in range(times):
        places = sorted(chance.sample(range(len(numbers)), chance.randint(1, len(numbers))))
        # The greatest row below some of its numbers, put up or down a little.
        lifted = Fraction(chance.randint(-far, far), chance.choice([1, 2, 5, 40]))
        yield [part + lifted for part in below_some(numbers, places)]


def below_some(numbers, places):
    """At each place the greatest that a row that bends one way can be, nowhere above at these."""
    if len(places) == 1:
        return [Fraction(numbers[places[0]])] * len(numbers)
    corners = []
    for place in places:
        while len(corners) > 1 and numbers[corners[-1]] >= own_line(numbers, corners[-2], place, corners[-1]):
            corners.pop()
        corners.append(place)
    told = []
    for place in range(len(numbers)):
        at = max([at for at in range(len(corners) - 1) if corners[at] <= place], default=0)
        told.append(own_line(numbers, corners[at], corners[at + 1], place))
    return told


def other_things():
    """Things of many kinds; made anew, so that no test can spoil them for another."""
    return [
        None, True, False, 0, 1, 7, -1, "", "0", "0 1 2", "abc", b"", b"\x00\x01\x02", {}, {0: 1, 1: 2, 2: 3},
        {0, 1, 2}, frozenset([0, 1, 2]), range(3), iter([0, 1, 2]), iter((0, 1, 2)), complex(0, 1),
        Odd(), Odd, len, [[]], [[0, 1, 2]], ((0, 1, 2),), [None], (None,), [Odd()], (Odd(),),
    ]


def wrong_places(many):
    """Things that are no place of a row of so many numbers; made anew."""
    return [
        -1, many, many + 1, -many, GREAT, -GREAT, True, False, "0", "1", "", b"1", None, [], [0], (), (1,), {},
        {0}, complex(1, 0), Odd(), Odd, len,
    ]


def no_threes(many):
    """Things that are no tuple of three places of a row of so many numbers, rising; made anew."""
    told = [
        [0, 1, 2], (), (0,), (0, 1), (0, 1, 2, 3), (0, 0, 0), (0, 0, 1), (0, 1, 1), (1, 1, 2), (0, 2, 1), (1, 0, 2),
        (2, 1, 0), (-1, 0, 1), (-3, -2, -1), (0, 1, many), (many - 2, many - 1, many), (0, 1, -1), (0, many, many + 1),
        (False, 1, 2), (0, True, 2), (False, True, 2), ("0", "1", "2"), (0, "1", 2), (0, 1, None), (None, None, None),
        (0, 1, (2,)), ([0], 1, 2), ((0, 1, 2),), (0, 1, complex(2, 0)), (0, Odd(), 2), {0: 0, 1: 1, 2: 2},
    ]
    for wrong in wrong_places(many):
        told += [(wrong, many - 2, many - 1), (0, wrong, many - 1), (0, 1, wrong)]
    return told + [thing for thing in other_things() if thing != (0, 1, 2)]


def no_places(many):
    """Things that are no list of places of a row of so many numbers, rising; made anew."""
    told = [
        (), (0,), (0, 1), [0, 0], [many - 1, many - 1], [1, 0], [0, 1, 0], [2, 1, 0], [-1], [-1, 0], [0, -1], [many],
        [0, many], [-many], [True], [False], [0, True], [False, 1], ["0"], [0, "1"], [None], [0, None], [[0]],
        [(0,)], [0, [1]], ["", 0], [Odd()], [0, Odd()], list(range(many + 1)), list(range(many))[::-1] + [0],
        [0] * 60, {0: 0}, {0},
    ]
    for wrong in wrong_places(many):
        told += [[wrong], [wrong, many - 1], [0, wrong], [0, wrong, many - 1]]
    return told + [thing for thing in other_things() if thing != []]


def wrong_prices():
    """Things that are no fraction from -1 to 1; made anew."""
    return [
        (2, 1), (-2, 1), (3, 2), (-3, 2), (GREAT, GREAT - 1), (-GREAT, GREAT - 1), (0, 2), (2, 4), (-2, 4),
        (3, 3), (-3, 3), (0, 0), (1, 0), (0, -1), (1, -1), (-1, -1), (1, -2), (True, 1), (False, 1), (0, True),
        (1, True), (-1, True), 0, 1, -1, True, False, [0, 1], [1, 1], [], (), (0,), (1,), (0, 1, 1), ("0", 1),
        (0, "1"), ("0", "1"), (None, 1), (0, None), ([0], 1), (0, [1]), ((0, 1), 1), (complex(0, 0), 1),
        (0, Odd()), "0", "0/1", "ab", "", b"ab", None, {}, {0: 0, 1: 1}, {0, 1}, iter((0, 1)), Odd(), Odd, len,
    ]


def no_prices(many):
    """Things that are no prices for a row of so many numbers; made anew."""
    none = (0, 1)
    told = [
        [], [none] * (many + 1), [none] * (many - 1), [none] * 60, (none,) * many, none, ((1, 1),) * many,
        {at: none for at in range(many)}, {none}, iter([none] * many), [0] * many, [[0, 1]] * many,
    ]
    for at in range(many):
        for wrong in wrong_prices():
            prices = [none] * many
            prices[at] = wrong
            told.append(prices)
    return told + other_things()


def price_rows(numbers):
    """Lists of fractions from -1 to 1, as many as a row has numbers: some show something."""
    chance = random.Random(repr(numbers) + "prices")
    many = len(numbers)
    for time in range(12):
        tops = [0, 0, 1, 1, 2, 5] + ([-1] if time % 4 == 3 else [])
        weights = [Fraction(0)] * (many + 4)
        for at in range(many - 2):
            weights[at + 3] = Fraction(chance.choice(tops), chance.choice([4, 20]))
        prices = [2 * weights[at] - weights[at - 1] - weights[at + 1] for at in range(2, many + 2)]
        if time % 5 == 4:
            prices[chance.randrange(many)] += Fraction(1, chance.choice([3, 7]))
        if all(abs(price) <= 1 for price in prices):
            yield prices
    for time in range(6):
        yield [Fraction(chance.randint(-3, 3), chance.choice([3, 4, 6])) for at in range(many)]
    yield [Fraction(0)] * many


def own_show_something(prices):
    """Whether prices show something, straight from what the document says."""
    if sum(prices) != 0 or sum(at * price for at, price in enumerate(prices)) != 0:
        return False
    for place in range(len(prices)):
        if sum(prices[at] * abs(place - at) for at in range(place)) > 0:
            return False
    return True


def own_sum_with(numbers, prices):
    return sum((number * price for number, price in zip(numbers, prices)), Fraction(0))
