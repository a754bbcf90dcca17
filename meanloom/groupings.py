"""Groupings of 0 to 6 things: listed, counted, compared, turned in, marked."""

from meanloom.checks import MOST_THINGS, check_count, check_grouping, check_kind
from meanloom.errors import BadGrouping

MOST_COUNTED = 200


def size_of(grouping):
    """How many things it groups."""
    return sum([len(group) for group in grouping])


def homes_of(grouping):
    """For each thing the count of its group."""
    homes = [0] * size_of(grouping)
    for home, group in enumerate(grouping):
        for thing in group:
            homes[thing] = home
    return homes


def gathered(labels):
    """The grouping of the things whose labels are alike."""
    groups = {}
    for thing, label in enumerate(labels):
        groups.setdefault(label, []).append(thing)
    return list(groups.values())


def all_homes(many):
    """The homes of all groupings, the lesser list first."""
    told = [[]]
    for step in range(many):
        # Each list is followed by its own longer ones, so the order stays.
        told = [homes + [home] for homes in told for home in range(max(homes, default=-1) + 2)]
    return told


def cross(one, other):
    """Whether two groups without a common thing cross."""
    owners = [thing in one for thing in sorted(one + other)]
    changes = [late for early, late in zip(owners, owners[1:]) if early != late]
    # One, other, one, other: the owner changes three times at least.
    return len(changes) >= 3


def is_nested(grouping):
    """Whether no two groups cross."""
    pairs = [cross(one, other) for at, one in enumerate(grouping) for other in grouping[:at]]
    return not any(pairs)


def is_rows(grouping):
    """Whether the things of each group stand next to one another."""
    return all([group[-1] - group[0] + 1 == len(group) for group in grouping])


def fits(grouping, kind):
    """Whether a grouping is of a kind, both known to be such."""
    if kind == "nested":
        return is_nested(grouping)
    if kind == "rows":
        return is_rows(grouping)
    return True


def groupings(many, kind):
    """All groupings of a kind of so many things, by the order of their homes."""
    check_count(many, MOST_THINGS)
    check_kind(kind)
    told = [gathered(homes) for homes in all_homes(many)]
    return [grouping for grouping in told if fits(grouping, kind)]


def count_all(many):
    """How many groupings there are, by the triangle of sums."""
    row = [1]
    for step in range(many):
        longer = [row[-1]]
        for number in row:
            longer.append(longer[-1] + number)
        row = longer
    return row[0]


def count_nested(many):
    """How many nested groupings there are."""
    count = 1
    for size in range(1, many + 1):
        count = count * (4 * size - 2) // (size + 1)
    return count


def count_rows(many):
    """How many groupings in rows there are: each thing but the first may begin a group."""
    count = 1
    for thing in range(1, many):
        count = count * 2
    return count


def how_many(many, kind):
    """How many groupings of a kind of so many things there are."""
    check_count(many, MOST_COUNTED)
    check_kind(kind)
    if kind == "nested":
        return count_nested(many)
    if kind == "rows":
        return count_rows(many)
    return count_all(many)


def is_kind(grouping, kind):
    """Whether a grouping is of a kind."""
    check_grouping(grouping)
    check_kind(kind)
    return fits(grouping, kind)


def check_alike(one, other):
    """Refuse if either is no grouping, or if they group unlike many things."""
    check_grouping(one)
    check_grouping(other)
    if size_of(one) != size_of(other):
        raise BadGrouping("groupings of unlike many things")


def within(one, other):
    """Whether each group of the one is within a group of the other."""
    check_alike(one, other)
    homes = homes_of(other)
    return all([homes[thing] == homes[group[0]] for group in one for thing in group])


def joined(one, other):
    """The least grouping within which both are."""
    check_alike(one, other)
    labels = homes_of(one)
    for group in other:
        met = [labels[thing] for thing in group]
        labels = [met[0] if label in met else label for label in labels]
    return gathered(labels)


def stands_alone(homes, start, stop):
    """Whether the things from the start up to the stop share no group with those outside."""
    outside = homes[:start] + homes[stop:]
    return not any([home in outside for home in homes[start:stop]])


def gap_groups(grouping):
    """The nested grouping turned in."""
    homes = homes_of(grouping)
    labels = []
    for gap in range(len(homes)):
        # Two gaps may be together just if no group leads out from between them.
        earlier = [first for first in range(gap + 1) if stands_alone(homes, first + 1, gap + 1)]
        labels.append(earlier[0])
    return gathered(labels)


def turned_in(grouping):
    """Of a nested grouping the fewest groups of the gaps that cross nothing."""
    check_grouping(grouping)
    if not is_nested(grouping):
        raise BadGrouping("not nested")
    return gap_groups(grouping)


def mark_all(grouping):
    """The mark of a grouping among all."""
    told = 1
    for place in range(1, len(grouping)):
        told = told * -place
    return told


def mark_rows(grouping):
    """The mark of a grouping among those in rows."""
    return -1 if len(grouping) > 0 and len(grouping) % 2 == 0 else 1


def mark_nested(grouping):
    """The mark of a grouping among the nested ones."""
    told = 1
    # What lies above a nested grouping is a product, a part for each group of its gaps.
    for group in gap_groups(grouping):
        sign = -1 if len(group) % 2 == 0 else 1
        told = told * sign * count_nested(len(group) - 1)
    return told


def mark(grouping, kind):
    """The mark of a grouping among those of a kind."""
    check_grouping(grouping)
    check_kind(kind)
    if not fits(grouping, kind):
        raise BadGrouping("a grouping of another kind")
    if kind == "nested":
        return mark_nested(grouping)
    if kind == "rows":
        return mark_rows(grouping)
    return mark_all(grouping)
