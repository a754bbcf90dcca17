"""Two letters of a table: their sum by all groupings, and whether they are apart or bound."""

from meanloom.answers import Apart, Mixed
from meanloom.checks import check_count, check_letters, check_table
from meanloom.errors import BadCount
from meanloom.mixed import are_apart, binding_counts, mixed_sum
from meanloom.tables import letters_of

MOST_OF_EACH = 40


def check_counts(many, more):
    """Refuse what are no numbers from 0 to 40, one above 0."""
    check_count(many, MOST_OF_EACH)
    check_count(more, MOST_OF_EACH)
    if many + more == 0:
        raise BadCount("none of either letter")


def both_sum(table, one, other, many, more):
    """The sum by all groupings of so many of the one letter and so many of the other."""
    check_table(table)
    check_letters(one, other, letters_of(table))
    check_counts(many, more)
    return mixed_sum(table, one, other, many, more)


def apart(table, one, other):
    """That two letters are apart, or a mixed sum that binds them."""
    check_table(table)
    check_letters(one, other, letters_of(table))
    if are_apart(table, one, other):
        return Apart()
    many, more = binding_counts(table, one, other)
    return Mixed(many, more)
