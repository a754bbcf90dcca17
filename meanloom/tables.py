"""Tables of weighted rows of numbers: means of words, tables put beside one another, tables made."""

from meanloom.checks import MOST_LETTERS, MOST_ROWS, check_table, check_word, is_numbers
from meanloom.errors import BadWays, TooMany
from meanloom.shares import lowest


def letters_of(table):
    """How many letters a table has."""
    return len(table[0][1])


def all_weights(table):
    """The weights of all rows, added."""
    return sum([weight for weight, numbers in table])


def product(numbers):
    """All numbers multiplied, 1 of none."""
    told = 1
    for number in numbers:
        told = told * number
    return told


def spelled(numbers, word):
    """The product of a word's letters in one row."""
    return product([numbers[letter] for letter in word])


def weighed(table, word):
    """The weights times the products of a word, added: its mean times all weights."""
    return sum([weight * spelled(numbers, word) for weight, numbers in table])


def mean(table, word):
    """The mean of a word."""
    check_table(table)
    check_word(word, letters_of(table))
    return lowest(weighed(table, word), all_weights(table))


def beside(one, other):
    """Each row of the one with each row of the other."""
    check_table(one)
    check_table(other)
    if len(one) * len(other) > MOST_ROWS or letters_of(one) + letters_of(other) > MOST_LETTERS:
        raise TooMany("more than 40 rows or 4 letters")
    return [
        (weight * factor, numbers + more)
        for weight, numbers in one
        for factor, more in other
    ]


def check_ways(value, letters):
    """Refuse what is no list of ways to make 1 to 4 letters of so many."""
    if not isinstance(value, list) or not 1 <= len(value) <= MOST_LETTERS:
        raise BadWays("no list of 1 to 4 ways")
    if not all([is_numbers(way, letters + 1, letters + 1) for way in value]):
        raise BadWays("no list of a number for each letter and one more")


def new_number(numbers, way):
    """So many times each number, and the last one of the way put to it."""
    return sum([many * number for many, number in zip(way, numbers)]) + way[-1]


def made(table, ways):
    """The table of the new letters that the ways tell."""
    check_table(table)
    check_ways(ways, letters_of(table))
    return [(weight, [new_number(numbers, way) for way in ways]) for weight, numbers in table]
