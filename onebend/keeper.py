"""A Keeper tells of a row while numbers come and go."""

from onebend.changed import fewest_changed
from onebend.errors import NoNumber, NoNumbers, TooMany
from onebend.exact import is_whole
from onebend.greatest import least_greatest
from onebend.rows import MOST_NUMBERS, bends_one_way, check_row


class Keeper:
    """A row at whose end numbers come and go."""

    def __init__(self, numbers):
        check_row(numbers)
        self.numbers = list(numbers)

    def put(self, number):
        if not is_whole(number):
            raise NoNumbers("only a whole number can come to a row")
        if len(self.numbers) == MOST_NUMBERS:
            raise TooMany("a row has at most twelve numbers")
        self.numbers.append(number)

    def back(self):
        if len(self.numbers) == 1:
            raise NoNumber("the only number that is left can't be taken back")
        self.numbers.pop()

    def row(self):
        return list(self.numbers)

    def bends_one_way(self):
        return bends_one_way(self.numbers)

    def least_greatest(self):
        return least_greatest(self.numbers)

    def fewest_changed(self):
        return fewest_changed(self.numbers)
