"""The answers: letters apart or bound by a mixed sum, means told as squares or by a square below 0."""

from meanloom.checks import is_number, is_share
from meanloom.mixed import are_apart, how_many_numbers, mixed_sum
from meanloom.shares import common_bottom, common_multiple, tops_over


def copied(value):
    """The value, with all lists in it and in its tuples new."""
    if isinstance(value, list):
        return [copied(part) for part in value]
    if isinstance(value, tuple):
        return tuple([copied(part) for part in value])
    return value


def is_row_of(value, size):
    """Whether it is a list of so many shares."""
    if not isinstance(value, list) or len(value) != size:
        return False
    return all([is_share(told) for told in value])


def is_part_of(value, size):
    """Whether it is a pair of a share above 0 and a list of so many shares."""
    if not isinstance(value, tuple) or len(value) != 2:
        return False
    weight, row = value
    return is_share(weight) and weight[0] > 0 and is_row_of(row, size)


def is_count_of(value, table, letter):
    """Whether it is a number from 1 on, less than how many numbers a letter has."""
    return is_number(value) and 1 <= value < how_many_numbers(table, letter)


def row_size(means):
    """How long the rows of squares of an odd count of means are."""
    return len(means) // 2 + 1


def whole_part(part):
    """A weight and a row of whole numbers, and what the weight is yet to be parted by."""
    (top, under), row = part
    bottom = common_bottom(row)
    return top, tops_over(row, bottom), under * bottom * bottom


def added_squares(parts, size):
    """For any two places the weights times both shares there, added, and what all is yet to be parted by."""
    wholes = [whole_part(part) for part in parts]
    bottom = 1
    for weight, row, under in wholes:
        bottom = common_multiple(bottom, under)
    factors = [weight * (bottom // under) for weight, row, under in wholes]
    rows = [row for weight, row, under in wholes]
    added = [
        [sum([factor * row[early] * row[late] for factor, row in zip(factors, rows)]) for late in range(size)]
        for early in range(size)
    ]
    return added, bottom


def adds_up(parts, means):
    """Whether the parts add up, for any two places, to the mean of both."""
    size = row_size(means)
    added, bottom = added_squares(parts, size)
    return all([
        added[early][late] * means[early + late][1] == means[early + late][0] * bottom
        for early in range(size)
        for late in range(size)
    ])


def is_below(row, means):
    """Whether the square of a row is below 0."""
    numbers = tops_over(row, common_bottom(row))
    tops = tops_over(means, common_bottom(means))
    size = len(row)
    # The common bottoms are above 0, so they don't change what is below 0.
    return sum([
        numbers[early] * numbers[late] * tops[early + late]
        for early in range(size)
        for late in range(size)
    ]) < 0


class Answer:
    """What is told of two letters or of means, with its proof."""


class Apart(Answer):
    """The two letters are apart."""

    def shows(self, table, one, other):
        """Whether the weights of any two numbers are as of letters apart."""
        return are_apart(table, one, other)


class Mixed(Answer):
    """The sum of so many of the one letter and so many of the other isn't 0."""

    def __init__(self, many, more):
        self.many = many
        self.more = more

    def shows(self, table, one, other):
        """Whether the counts fit the letters and bind them."""
        if not is_count_of(self.many, table, one) or not is_count_of(self.more, table, other):
            return False
        return mixed_sum(table, one, other, self.many, self.more)[0] != 0


class Squares(Answer):
    """The means are told by weights, all above 0, of squares."""

    def __init__(self, parts):
        self.parts = copied(parts)

    def shows(self, means):
        """Whether the weights are above 0 and the parts add up to the means."""
        parts, size = self.parts, row_size(means)
        if not isinstance(parts, list) or not all([is_part_of(part, size) for part in parts]):
            return False
        return adds_up(parts, means)


class Below(Answer):
    """The means have a square below 0."""

    def __init__(self, row):
        self.row = copied(row)

    def shows(self, means):
        """Whether the row fits the means and its square is below 0."""
        return is_row_of(self.row, row_size(means)) and is_below(self.row, means)
