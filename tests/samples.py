"""Rows and other things that several tests hand in."""

import itertools

ROWS = [
    [0],
    [-7],
    [10 ** 12 - 1],
    [3, 8],
    [5, -5],
    [1, 2, 3],
    [4, 0, 4],
    [0, 4, 0],
    [0, 1, 0, 1, 0],
    [0, 3, 1, 3, 5, 10],
    [9, 4, 1, 0, 1, 4, 9],
    [-10, -3, -8, -2, -9],
    [7] * 12,
    [5, 4, 9, -3, 2, 8, -1, 0, 6, 7, 3, 12],
    list(range(-30, 30, 5)),
    [at * at for at in range(-6, 6)],
    [10 ** 12 - 1, -(10 ** 12 - 1), 0, 999999999998, -999999999997, 123456789012],
    [10 ** 40, -(10 ** 41), 3, 10 ** 50],
]


def small_rows(most, low, high):
    """Every row of one to most numbers from low to high."""
    for many in range(1, most + 1):
        for numbers in itertools.product(range(low, high + 1), repeat=many):
            yield list(numbers)


class Odd:
    """A thing of a kind that the program knows nothing of."""


def no_rows():
    """Things that are no row; made anew, so that no test can spoil them for another."""
    return [
        [],
        [0] * 13,
        [0] * 60,
        [True],
        [False, 1, 2],
        [1, 2, True],
        [1, "2", 3],
        ["1"],
        [1, None],
        [None],
        [[1, 2, 3]],
        [1, [2], 3],
        [(1, 1), (2, 1)],
        [1, (2, 1)],
        [b"1"],
        [{}],
        [Odd()],
        [1, complex(1, 0)],
        (1, 2, 3),
        (),
        "1 2 3",
        "",
        b"\x01\x02",
        None,
        True,
        False,
        0,
        7,
        {},
        {0: 1, 1: 2},
        {1, 2, 3},
        frozenset([1]),
        range(3),
        iter([1, 2, 3]),
        Odd(),
        Odd,
        len,
    ]


BENT_FRACTIONS = [
    [(0, 1)],
    [(-7, 3)],
    [(1, 2), (-5, 3)],
    [(1, 2), (1, 3), (1, 4)],
    [(0, 1), (1, 2), (1, 1)],
    [(3, 1), (1, 7), (-1, 1), (-1, 1), (0, 1), (5, 2)],
    [(1, at) for at in range(1, 13)],
    [(at * at, 1) for at in range(-6, 6)],
    [(10 ** 12 - 1, 10 ** 12 - 2), (0, 1), (1, 999999999989)],
    [(10 ** 60 + 1, 10 ** 60), (-(10 ** 70), 3), (1, 7)],
]

UNBENT_FRACTIONS = [
    [(0, 1), (1, 3), (1, 2)],
    [(0, 1), (1, 1), (0, 1)],
    [(0, 1), (1, 10 ** 12 - 1), (0, 1)],
    [(1, 2), (2, 3), (3, 4)],
    [(0, 1)] * 10 + [(1, 100), (0, 1)],
    [(0, 1)] * 5 + [(1, 7)] + [(0, 1)] * 6,
    [(1, 3), (333333333334, 10 ** 12 - 1), (1, 3)],
]


def no_rows_of_fractions():
    """Things that are no row of fractions; made anew."""
    return [
        [],
        [(0, 1)] * 13,
        [(2, 4)],
        [(0, 2)],
        [(-3, 3)],
        [(1, 1), (6, 4), (9, 1)],
        [(10 ** 12 - 1, 3)],
        [(1, 0)],
        [(0, 0)],
        [(1, -2)],
        [(0, -1)],
        [(True, 1)],
        [(False, 1)],
        [(1, True)],
        [(5, 1), (5, 1), (5, True)],
        [[1, 2]],
        [(1, 1), [1, 1]],
        [(1, 1, 1)],
        [(1,)],
        [()],
        [1],
        [(1, 1), 2],
        [("1", 1)],
        [(1, "1")],
        [(None, 1)],
        [(1, None)],
        [((1, 1), 1)],
        ["ab"],
        [b"ab"],
        [{0: 1, 1: 1}],
        [None],
        [Odd()],
        [(Odd(), Odd())],
        [(complex(1, 0), 1)],
        ((1, 1),),
        (1, 1),
        "1/2",
        b"12",
        None,
        True,
        0,
        {},
        {(1, 1)},
        iter([(1, 1)]),
        Odd(),
        Odd,
        len,
    ]


def no_measures():
    """Things that name no measure; made anew."""
    return [
        "", "Greatest", "greatest ", " sum", "SUM", "square", "sums", "change", "least",
        "greatest\n", b"sum", ["sum"], ("sum",), {"sum": 1}, {"sum"}, None, True, False,
        0, 1, -1, [], {}, [[]], Odd(), Odd, sum, max, complex(0, 1),
    ]
