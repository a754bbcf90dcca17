"""Means told as weighted squares, or a square of theirs that is below 0.

The means stand in rows, the mean of i + j at place j of row i. Behind each row
stand the numbers by which it is made of the rows as they were. Row by row a
square is taken away, until nothing is left or a square below 0 is met. All
numbers stay whole: the rows are kept times the last lead, the number at its
own place of the row that was last taken away.
"""

from meanloom.answers import Below, Squares
from meanloom.checks import check_odd_means
from meanloom.shares import common_bottom, lowest, tops_over


def mean_rows(tops):
    """The rows of whole means, behind each the numbers that make it of all rows."""
    size = len(tops) // 2 + 1
    return [tops[at:at + size] + [1 if place == at else 0 for place in range(size)] for at in range(size)]


def taken_away(row, leading, at, last):
    """A row less so much of the leading one that it has 0 at the place of the lead."""
    return [(leading[at] * own - row[at] * told) // last for own, told in zip(row, leading)]


def first_beside(row, at, size):
    """The first place behind the row's own one where it isn't 0, None if there is none."""
    for place in range(at + 1, size):
        if row[place] != 0:
            return place
    return None


def row_below(rows, at, size):
    """Numbers whose square is below 0 by a row that has 0 or less at its own place, None if it has none."""
    row = rows[at]
    if row[at] < 0:
        return row[size:]
    place = first_beside(row, at, size)
    if row[at] > 0 or place is None:
        return None
    # Its own square is 0, so with enough of it what it has in common with the other row outweighs that one's square.
    other = rows[place]
    enough = abs(other[place]) + 1
    return [row[place] * late - enough * early for early, late in zip(row[size:], other[size:])]


def steady(means):
    """Squares that add up to the means, or a square of theirs below 0."""
    check_odd_means(means)
    bottom = common_bottom(means)
    rows, size = mean_rows(tops_over(means, bottom)), len(means) // 2 + 1
    parts, last = [], 1
    for at in range(size):
        below = row_below(rows, at, size)
        if below is not None:
            return Below([(number, 1) for number in below])
        leading = rows[at]
        lead = leading[at]
        if lead > 0:
            parts.append((lowest(lead, last * bottom), [lowest(number, lead) for number in leading[:size]]))
            rows = rows[:at + 1] + [taken_away(row, leading, at, last) for row in rows[at + 1:]]
            last = lead
    return Squares(parts)
