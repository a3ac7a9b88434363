"""Whole numbers and fractions: what they are, and reckoning with them."""


def is_whole(thing):
    # A truth is an int to Python, but no whole number.
    return isinstance(thing, int) and not isinstance(thing, bool)


def greatest_divisor(one, other):
    """The greatest number that divides both, which are not both 0."""
    one, other = abs(one), abs(other)
    while other != 0:
        one, other = other, one % other
    return one


def is_fraction(thing):
    if not isinstance(thing, tuple) or len(thing) != 2:
        return False
    top, bottom = thing
    if not is_whole(top) or not is_whole(bottom) or bottom < 1:
        return False
    return greatest_divisor(top, bottom) == 1


def in_least_numbers(top, bottom):
    """The fraction that is top by bottom, a bottom above 0."""
    divisor = greatest_divisor(top, bottom)
    return (top // divisor, bottom // divisor)


def is_less(one, other):
    """Whether one fraction is less than the other."""
    return one[0] * other[1] < other[0] * one[1]


def add(one, other):
    """The sum of two fractions."""
    return in_least_numbers(one[0] * other[1] + other[0] * one[1], one[1] * other[1])


def shared_bottom(fractions):
    """The least number that every bottom divides."""
    shared = 1
    for top, bottom in fractions:
        shared = shared // greatest_divisor(shared, bottom) * bottom
    return shared


def tops_over(fractions, shared):
    """The tops of the fractions when all are written over one shared bottom."""
    return [top * (shared // bottom) for top, bottom in fractions]


class Table:
    """Amounts that hang on one another, in lines of whole numbers over one bottom.

    The amounts are known by names, some beside the lines and some atop the columns. A line says:
    its own amount, and those of all columns each times its number in the line, add up to the last
    number of the line. So, where all amounts atop are 0, that number is the line's own amount.
    """

    def __init__(self, lines, beside, atop):
        self.lines = [list(line) for line in lines]
        self.beside = list(beside)
        self.atop = list(atop)
        self.bottom = 1

    def exchange(self, at, column):
        """Lets the amounts of a line and a column change places; their number is above 0."""
        chosen = self.lines[at]
        lines = [self.without(line, chosen, column) for line in self.lines]
        lines[at] = list(chosen)
        lines[at][column] = self.bottom
        self.lines = lines
        self.bottom = chosen[column]
        self.beside[at], self.atop[column] = self.atop[column], self.beside[at]

    def without(self, line, chosen, column):
        """The line with the column's amount put into it as the chosen line tells it."""
        # Each number is a determinant of numbers from the first lines, so the bottom divides it.
        told = [
            (part * chosen[column] - line[column] * other) // self.bottom
            for part, other in zip(line, chosen)
        ]
        told[column] = -line[column]
        return told

    def amounts(self):
        """The amounts beside the lines, by their names, each times the bottom."""
        return {name: line[-1] for name, line in zip(self.beside, self.lines)}
