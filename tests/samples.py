"""Rows, bounds and other things that several tests hand in, and going through rows one by one."""

import itertools
import random

ROWS = [
    [0],
    [-7],
    [10 ** 12 - 1],
    [3, 8],
    [5, -5],
    [1, 2, 3],
    [4, 0, 4],
    [0, 4, 0],
    [0, 1, 0, 1, 0],
    [0, 3, 1, 3, 5, 10],
    [9, 4, 1, 0, 1, 4, 9],
    [-10, -3, -8, -2, -9],
    [7] * 12,
    [5, 4, 9, -3, 2, 8, -1, 0, 6, 7, 3, 12],
    list(range(-30, 30, 5)),
    [at * at for at in range(-6, 6)],
    [10 ** 12 - 1, -(10 ** 12 - 1), 0, 999999999998, -999999999997, 123456789012],
    [10 ** 40, -(10 ** 41), 3, 10 ** 50],
]


def small_rows(most, low, high):
    """Every row of one to most numbers from low to high."""
    for many in range(1, most + 1):
        for numbers in itertools.product(range(low, high + 1), repeat=many):
            yield list(numbers)


class Odd:
    """A thing of a kind that the program knows nothing of."""


def no_rows():
    """Things that are no row; made anew, so that no test can spoil them for another."""
    return [
        [],
        [0] * 13,
        [0] * 60,
        [True],
        [False, 1, 2],
        [1, 2, True],
        [1, "2", 3],
        ["1"],
        [1, None],
        [None],
        [[1, 2, 3]],
        [1, [2], 3],
        [(1, 1), (2, 1)],
        [1, (2, 1)],
        [b"1"],
        [{}],
        [Odd()],
        [1, complex(1, 0)],
        (1, 2, 3),
        (),
        "1 2 3",
        "",
        b"\x01\x02",
        None,
        True,
        False,
        0,
        7,
        {},
        {0: 1, 1: 2},
        {1, 2, 3},
        frozenset([1]),
        range(3),
        iter([1, 2, 3]),
        Odd(),
        Odd,
        len,
    ]


BENT_FRACTIONS = [
    [(0, 1)],
    [(-7, 3)],
    [(1, 2), (-5, 3)],
    [(1, 2), (1, 3), (1, 4)],
    [(0, 1), (1, 2), (1, 1)],
    [(3, 1), (1, 7), (-1, 1), (-1, 1), (0, 1), (5, 2)],
    [(1, at) for at in range(1, 13)],
    [(at * at, 1) for at in range(-6, 6)],
    [(10 ** 12 - 1, 10 ** 12 - 2), (0, 1), (1, 999999999989)],
    [(10 ** 60 + 1, 10 ** 60), (-(10 ** 70), 3), (1, 7)],
]

UNBENT_FRACTIONS = [
    [(0, 1), (1, 3), (1, 2)],
    [(0, 1), (1, 1), (0, 1)],
    [(0, 1), (1, 10 ** 12 - 1), (0, 1)],
    [(1, 2), (2, 3), (3, 4)],
    [(0, 1)] * 10 + [(1, 100), (0, 1)],
    [(0, 1)] * 5 + [(1, 7)] + [(0, 1)] * 6,
    [(1, 3), (333333333334, 10 ** 12 - 1), (1, 3)],
]


def no_rows_of_fractions():
    """Things that are no row of fractions; made anew."""
    return [
        [],
        [(0, 1)] * 13,
        [(2, 4)],
        [(0, 2)],
        [(-3, 3)],
        [(1, 1), (6, 4), (9, 1)],
        [(10 ** 12 - 1, 3)],
        [(1, 0)],
        [(0, 0)],
        [(1, -2)],
        [(0, -1)],
        [(True, 1)],
        [(False, 1)],
        [(1, True)],
        [(5, 1), (5, 1), (5, True)],
        [[1, 2]],
        [(1, 1), [1, 1]],
        [(1, 1, 1)],
        [(1,)],
        [()],
        [1],
        [(1, 1), 2],
        [("1", 1)],
        [(1, "1")],
        [(None, 1)],
        [(1, None)],
        [((1, 1), 1)],
        ["ab"],
        [b"ab"],
        [{0: 1, 1: 1}],
        [None],
        [Odd()],
        [(Odd(), Odd())],
        [(complex(1, 0), 1)],
        ((1, 1),),
        (1, 1),
        "1/2",
        b"12",
        None,
        True,
        0,
        {},
        {(1, 1)},
        iter([(1, 1)]),
        Odd(),
        Odd,
        len,
    ]


def no_measures():
    """Things that name no measure; made anew."""
    return [
        "", "Greatest", "greatest ", " sum", "SUM", "square", "sums", "change", "least",
        "greatest\n", b"sum", ["sum"], ("sum",), {"sum": 1}, {"sum"}, None, True, False,
        0, 1, -1, [], {}, [[]], Odd(), Odd, sum, max, complex(0, 1),
    ]


def around(numbers, *widths):
    """Bounds that begin at the numbers of a row and are so wide, the widths taken in turn."""
    turns = itertools.cycle(widths)
    return [(number, number + width) for number, width in zip(numbers, turns)]


NARROW_BOUNDS = [
    [(0, 0)],
    [(5, 9)],
    [(-12, 0)],
    [(-(10 ** 12 - 1), -(10 ** 12 - 1) + 4)],
    [(0, 4), (-2, 2)],
    [(7, 7), (-7, -7)],
    [(0, 1), (0, 1), (0, 1)],
    [(0, 0), (1, 1), (1, 1)],
    [(0, 0), (0, 1), (2, 2)],
    [(0, 2), (3, 3), (0, 2)],
    [(0, 2), (2, 2), (0, 2)],
    [(0, 4)] * 5,
    [(-2, 2)] * 5,
    [(-9, -5)] * 5,
    [(3, 3)] * 5,
    around([16, 4, 0, 4, 16], 4),
    around([4, 1, 0, 1, 4], 0),
    around([-8, -4, -1, 1, 2], 0),
    around([-8, -4, -1, 1, 2], 2),
    around([0, 3, 6, 9, 12], 4, 0),
    around([0, -3, -6, -9, -12], 1, 3, 2),
    around([0, 5, 0, 5, 0], 4),
    around([0, 9, 0, 9, 0], 4),
    around([10 ** 12 - 9, 10 ** 12 - 8, 10 ** 12 - 7, 10 ** 12 - 5], 3),
    around([-(10 ** 12) + 9, -(10 ** 12) + 1, -(10 ** 12) + 1, -(10 ** 12) + 2], 4),
    around([10 ** 11, -(10 ** 11), 10 ** 11, 4 * 10 ** 11, 8 * 10 ** 11], 4),
    around([10 ** 11, -(10 ** 11), 10 ** 11, 0], 4),
]

# Ten bounds, so narrow that all rows within can still be gone through.
LONG_BOUNDS = [
    around([at * at for at in range(-5, 5)], 2),
    around([-(10 ** 11) + 3 * at for at in range(10)], 2),
    around([20, 12, 6, 3, 0, 0, 1, 3, 8, 15], 1, 3, 2),
    around([0, 1, 0, 2, 1, 3, 5, 4, 7, 9], 2),
    around([5, 0, 0, 0, 0, 0, 0, 0, 0, 0], 1, 2),
]


def drawn_row(chance, many, far):
    """A row that bends one way, or one that may not, near a number."""
    steps = [chance.randint(-4, 4) for place in range(many - 1)]
    if chance.random() < 0.6:
        steps.sort()
    return list(itertools.accumulate(steps, initial=far + chance.randint(-3, 3)))


def drawn_bounds(times, most=5, widest=4):
    """Bounds around drawn rows; the same ones each time."""
    chance = random.Random(20261118)
    for time in range(times):
        far = chance.choice([0, 0, 0, -20, 10 ** 6, -(10 ** 11), 10 ** 12 - 60])
        numbers = drawn_row(chance, chance.randint(1, most), far)
        lows = [number - chance.randint(0, 2) for number in numbers]
        yield [(lo, lo + chance.randint(0, widest)) for lo in lows]


def every_small_bounds():
    """All bounds of three that begin at -1, 0 or 1 and are at most three numbers wide."""
    pairs = [(lo, lo + width) for lo in (-1, 0, 1) for width in (0, 1, 2)]
    for chosen in itertools.product(pairs, repeat=3):
        yield list(chosen)


def own_bends(numbers):
    return [
        numbers[at - 1] - 2 * numbers[at] + numbers[at + 1] for at in range(1, len(numbers) - 1)
    ]


def rows_within(bounds):
    """Every row within the bounds, in their order as lists, one by one."""
    for numbers in itertools.product(*[range(lo, hi + 1) for lo, hi in bounds]):
        yield list(numbers)


def bent_rows_within(bounds):
    """Every row within the bounds that bends one way, in their order as lists."""
    return [
        numbers for numbers in rows_within(bounds) if all(bend >= 0 for bend in own_bends(numbers))
    ]


WIDE_BOUNDS = [
    [(0, 12)] * 10,
    [(-6, 6)] * 10,
    around([at * at for at in range(-5, 5)], 12),
    around([at * at * at // 2 for at in range(10)], 12),
    around([2 ** at for at in range(10)], 12),
    around([7 * at - 40 for at in range(10)], 12),
    around([-(10 ** 12 - 1) + at * at for at in range(10)], 12),
    around([10 ** 12 - 13 - at for at in range(10)], 12),
    around([0, 8, -3, 4, -6, 2, 5, -1, 7, 3], 12),
    around([at * (at - 9) for at in range(10)], 12, 9, 11),
]

# Each row within them bends one way, so steep is what they stand around.
STEEP_BOUNDS = around([13 * at * at for at in range(-3, 7)], 12)

WIDE_BOUNDS_WITH_NONE = [
    around([0, 13, 0, 0, 0, 0, 0, 0, 0, 0], 12),
    around([0, 0, 0, 0, 0, 0, 0, 0, 40, 0], 12),
    around([-(at * at) * 4 for at in range(10)], 12),
]


def wrong_bounds():
    """Things that are no tuple (lo, hi) as bounds have them; made anew."""
    return [
        (1, 0), (0, -1), (5, -5), (-3, -4), (10 ** 12 - 1, -(10 ** 12 - 1)),
        (0, 13), (-13, 0), (-6, 7), (5, 18), (0, 14), (0, 10 ** 12 - 1), (-(10 ** 12 - 1), 0),
        (True, 5), (0, True), (False, 0), (True, True), (False, False), (False, True),
        ("0", 1), (0, "1"), (None, 1), (0, None), (b"0", 1), (0, b"1"), ([0], 1), (0, [1]),
        ((0, 1), 1), (0, (0, 1)), ((0, 1), (0, 1)), ({}, 1), (0, {}), (complex(0, 0), 1), (0, Odd()),
        (Odd(), Odd()), [0, 1], [0, 0], [], {0: 0, 1: 1}, {0, 1}, {}, range(2), iter((0, 1)),
        (), (0,), (0, 0, 0), (0, 1, 2), "ab", "01", "", b"ab", b"", None, True, False, 0, 7,
        Odd(), Odd, len,
    ]


def no_bounds():
    """Things that are no bounds; made anew, so that no test can spoil them for another."""
    alone = [[thing] for thing in wrong_bounds()]
    behind = [[(0, 1), thing] for thing in wrong_bounds()]
    ahead = [[thing, (0, 1), (0, 1)] for thing in wrong_bounds()]
    return alone + behind + ahead + [
        [],
        [(0, 0)] * 11,
        [(0, 12)] * 12,
        [(0, 1)] * 60,
        ((0, 1), (0, 1)),
        ((0, 1),),
        (0, 1),
        (),
        {},
        {0: (0, 1)},
        {(0, 1): (0, 1)},
        {(0, 1)},
        frozenset([(0, 1)]),
        iter([(0, 1)]),
        range(3),
        "0 1",
        "",
        "ab",
        b"ab",
        None,
        True,
        False,
        0,
        7,
        complex(1, 1),
        Odd(),
        Odd,
        len,
    ]


def no_whole_numbers():
    """Things that are no whole number; made anew."""
    return [
        True, False, "0", "1", "", "a", b"0", b"", None, [], [0], [1], (), (0,), (0, 1), {}, {0: 0},
        {0}, frozenset([0]), range(1), iter([0]), complex(0, 0), complex(1, 0), Odd(), Odd, len,
    ]
