"""Two letters of a table: the weights that bind them, and the sums by all groupings of so many of each."""

from meanloom.checks import common_measure
from meanloom.series import choices
from meanloom.shares import lowest_by_power


def how_many_numbers(table, letter):
    """How many numbers a letter has."""
    return len({numbers[letter] for weight, numbers in table})


def gathered(pairs):
    """Of pairs of a key and a weight: for each key its weights, added."""
    told = {}
    for key, weight in pairs:
        told[key] = told.get(key, 0) + weight
    return told


def weights_of(table, letter):
    """For each number of a letter the weights of the rows with it, added."""
    return gathered([(numbers[letter], weight) for weight, numbers in table])


def weights_of_both(table, one, other):
    """For each two numbers that two letters have in a row the weights of the rows with both, added."""
    return gathered([((numbers[one], numbers[other]), weight) for weight, numbers in table])


def bonds(table, one, other):
    """For each number of the other letter a list of pairs: a number of the one letter, and a bond.

    A bond is the weights of both numbers together times all weights, less
    those of the one times those of the other.
    """
    both = weights_of_both(table, one, other)
    firsts, seconds = weights_of(table, one), weights_of(table, other)
    total = sum(both.values())
    return [
        (second, [(first, both.get((first, second), 0) * total - weight * more) for first, weight in firsts.items()])
        for second, more in seconds.items()
    ]


def are_apart(table, one, other):
    """Whether no weights bind two letters."""
    return all([bond == 0 for second, row in bonds(table, one, other) for first, bond in row])


def lifted(pairs):
    """Pairs of a number and a bond, each bond times its number."""
    return [(number, number * bond) for number, bond in pairs]


def total_bond(pairs):
    """The bonds of pairs of a number and a bond, added."""
    return sum([bond for number, bond in pairs])


def first_lift(pairs):
    """How often bonds that add up to 0, not all 0, are lifted until they don't."""
    times_lifted = 0
    # No more often than there are numbers: bonds of unlike numbers can't all the time add up to 0.
    while total_bond(pairs) == 0:
        pairs = lifted(pairs)
        times_lifted += 1
    return times_lifted


def binding_counts(table, one, other):
    """The least counts of two bound letters whose sum isn't 0, the one letter's as little as can be.

    The bonds, lifted by the counts and added, are the mean of so many of each,
    less what it is of letters apart, times all weights twice. While it is 0 for
    all lesser counts, it is the mixed sum: the other groupings then have
    means as of letters apart.
    """
    rows, many, totals = bonds(table, one, other), 0, []
    while all([total == 0 for second, total in totals]):
        rows = [(second, lifted(row)) for second, row in rows]
        totals = [(second, total_bond(row)) for second, row in rows]
        many += 1
    return many, first_lift(totals)


def lowered_weights(weights):
    """Weights by the greatest number that goes into all of them."""
    measure = 0
    for weight in weights:
        measure = common_measure(weight, measure)
    return [weight // measure for weight in weights]


def centred(numbers, weights):
    """The numbers less their mean, times all weights."""
    total = sum(weights)
    middle = sum([weight * number for weight, number in zip(weights, numbers)])
    return [number * total - middle for number in numbers]


def multiplied(one, other):
    """The numbers of two lists, multiplied place by place."""
    return [early * late for early, late in zip(one, other)]


def both_means(firsts, seconds, weights, many, more):
    """Lists of the means of 0 to so many of the first numbers with 0 to so many of the second ones."""
    total, told, lifts = sum(weights), [], weights
    for step in range(many + 1):
        row, further = [], lifts
        for turn in range(more + 1):
            row.append(sum(further) // total)
            further = multiplied(further, seconds)
        told.append(row)
        lifts = multiplied(lifts, firsts)
    return told


def chosen_means(row):
    """For each count of things a list: for 0, 1 and so on of them taken, the ways to do so times the rest's mean."""
    return [multiplied(choices(count), row[count::-1]) for count in range(len(row))]


def whole_mixed(means):
    """The sum of as many of each letter as the last mean of the last list has."""
    outside, sums = [chosen_means(row) for row in means], []
    for many in range(1, len(means)):
        ways, row = choices(many - 1), []
        for more in range(len(means[0])):
            # All other groupings: in the group of the first place stand fewer of the one letter or of the other.
            told = means[many][more] - sum(multiplied(row, outside[0][more]))
            for at, known in enumerate(sums):
                told -= ways[at] * sum(multiplied(known, outside[many - 1 - at][more]))
            row.append(told)
        sums.append(row)
    return sums[-1][-1]


def mixed_sum(table, one, other, many, more):
    """The sum by all groupings of so many of the one letter and so many of the other, one at least."""
    if many == 0:
        return mixed_sum(table, other, one, more, many)
    cells = weights_of_both(table, one, other)
    weights = lowered_weights(list(cells.values()))
    firsts, seconds = [first for first, second in cells], [second for first, second in cells]
    total = sum(weights)
    if many + more == 1:
        return lowest_by_power(sum(multiplied(weights, firsts)), total, 1)
    # Less their means, the numbers are small and have the same sums, but for those of one.
    means = both_means(centred(firsts, weights), centred(seconds, weights), weights, many, more)
    return lowest_by_power(whole_mixed(means), total, many + more)
