"""What is a number, a share, a kind, a grouping, a table, a word, a letter; refusals of what is none.

The messages never show what was handed in: Python refuses to write out very
long numbers, and that would hide the refusal that is told.
"""

from meanloom.errors import BadCount, BadGrouping, BadKind, BadLetters, BadMeans, BadShare, BadTable, BadWord

KINDS = ("all", "nested", "rows")
MOST_THINGS = 6
MOST_ROWS = 40
MOST_LETTERS = 4
MOST_MEANS = 10
MOST_SQUARED = 13


def is_number(value):
    """Whether it is a whole number; True and False are none."""
    return isinstance(value, int) and not isinstance(value, bool)


def common_measure(one, other):
    """The greatest number that goes into both."""
    one, other = abs(one), abs(other)
    while other > 0:
        one, other = other, one % other
    return one


def is_share(value):
    """Whether it is a pair of numbers in lowest terms, the bottom above 0."""
    if not isinstance(value, tuple) or len(value) != 2:
        return False
    top, bottom = value
    if not is_number(top) or not is_number(bottom):
        return False
    return bottom > 0 and common_measure(top, bottom) == 1


def is_group(value):
    """Whether it is a list of rising numbers, one at least."""
    if not isinstance(value, list) or len(value) == 0:
        return False
    if not all([is_number(thing) for thing in value]):
        return False
    return all([early < late for early, late in zip(value, value[1:])])


def is_grouping(value):
    """Whether it is a grouping of 0 to 6 things."""
    if not isinstance(value, list) or not all([is_group(group) for group in value]):
        return False
    firsts = [group[0] for group in value]
    things = sorted([thing for group in value for thing in group])
    if len(things) > MOST_THINGS or things != list(range(len(things))):
        return False
    return firsts == sorted(firsts)


def is_numbers(value, least, most):
    """Whether it is a list of numbers, not fewer and not more than told."""
    if not isinstance(value, list) or not least <= len(value) <= most:
        return False
    return all([is_number(number) for number in value])


def is_row(value):
    """Whether it is a pair of a weight from 1 on and a list of 1 to 4 numbers."""
    if not isinstance(value, tuple) or len(value) != 2:
        return False
    weight, numbers = value
    return is_number(weight) and weight >= 1 and is_numbers(numbers, 1, MOST_LETTERS)


def is_table(value):
    """Whether it is a list of 1 to 40 rows, in each as many numbers."""
    if not isinstance(value, list) or not 1 <= len(value) <= MOST_ROWS:
        return False
    if not all([is_row(row) for row in value]):
        return False
    return all([len(numbers) == len(value[0][1]) for weight, numbers in value])


def is_word(value, letters):
    """Whether it is a list of 0 to 6 of so many letters."""
    if not is_numbers(value, 0, MOST_THINGS):
        return False
    return all([0 <= letter < letters for letter in value])


def is_means(value, most):
    """Whether it is a list of shares, so many at most."""
    if not isinstance(value, list) or len(value) > most:
        return False
    return all([is_share(mean) for mean in value])


def is_letter(value, letters):
    """Whether it is one of so many letters."""
    return is_number(value) and 0 <= value < letters


def check_share(value):
    """Refuse what is no share."""
    if not is_share(value):
        raise BadShare("no pair in lowest terms with a bottom above 0")


def check_count(value, most):
    """Refuse what is no number from 0 to the most."""
    if not is_number(value) or not 0 <= value <= most:
        raise BadCount("no number within the told limits")


def check_kind(value):
    """Refuse what is none of the three kinds."""
    if not isinstance(value, str) or value not in KINDS:
        raise BadKind("none of the kinds all, nested and rows")


def check_grouping(value):
    """Refuse what is no grouping."""
    if not is_grouping(value):
        raise BadGrouping("no grouping of 0 to 6 things")


def check_table(value):
    """Refuse what is no table."""
    if not is_table(value):
        raise BadTable("no list of 1 to 40 rows, pairs of a weight and 1 to 4 numbers, as many in each")


def check_word(value, letters):
    """Refuse what is no word of so many letters."""
    if not is_word(value, letters):
        raise BadWord("no list of 0 to 6 letters")


def check_means(value):
    """Refuse what is no list of 0 to 10 shares."""
    if not is_means(value, MOST_MEANS):
        raise BadMeans("no list of 0 to 10 shares")


def check_odd_means(value):
    """Refuse what is no odd count of 1 to 13 shares."""
    if not is_means(value, MOST_SQUARED) or len(value) % 2 == 0:
        raise BadMeans("no list of an odd count of 1 to 13 shares")


def check_letters(one, other, letters):
    """Refuse what are no two unlike ones of so many letters."""
    if not is_letter(one, letters) or not is_letter(other, letters) or one == other:
        raise BadLetters("no two unlike letters of the table")
