"""Values of every kind for the tests of refusals, and what the tests share."""

import copy

GREAT = 10 ** 60 + 7
HUGE = 3 ** 9000

NOT_SHARES = [
    # no tuple
    [1, 2], [0, 1], {0: 1, 1: 2}, "12", b"12", range(1, 3),
    # one or three numbers
    (1,), (0,), (1, 2, 3), (1, 1, 1), (0, 1, 0),
    # not in lowest terms
    (2, 2), (2, 4), (-2, 4), (0, 2), (0, 7), (6, 3), (GREAT, GREAT), (GREAT * 3, 3), (HUGE, 9), (9, HUGE),
    # a bottom of 0 or below
    (1, 0), (0, 0), (-1, 0), (HUGE, 0), (1, -1), (1, -2), (-1, -2), (0, -1), (2, -4), (-HUGE, -2),
    # parts that are no numbers
    (True, 1), (False, 1), (1, True), (True, True), ("1", 2), (1, "2"), (None, 1), (1, None), ((1,), 2), ([1], 2),
    (1, [2]), ((1, 2), (1, 2)), (1, object()), (object(), 1), (b"1", 1), ({}, 1), (1, {1}), (1j, 1),
]


class Agreeable:
    """Says that it is equal to anything."""

    def __eq__(self, other):
        return True

    __hash__ = None


class Unreadable:
    """Fails when it is shown, compared or measured."""

    def __repr__(self):
        raise RuntimeError("shown")

    def __eq__(self, other):
        raise RuntimeError("compared")

    def __len__(self):
        raise RuntimeError("measured")

    __hash__ = None


def looped():
    """A list that holds itself."""
    told = []
    told.append(told)
    return told


def not_numbers():
    """What is neither a number nor a share."""
    return [
        True, False, None, "", "0", "1", "all", "nested", b"", b"1", [0], [1], (), (1,), (2, 4), {}, {0: 1}, set(), {1},
        frozenset(), object(), Agreeable(), Unreadable(), int, len, lambda: 1, range(2), iter([1]), looped(), ...,
        NotImplemented, ValueError("x"), 1j, bytearray(b"1"), memoryview(b"1"),
    ]


def not_kinds():
    """What is no kind."""
    return [
        None, True, False, 0, 1, 10 ** 5000, "", "All", "ALL", "all ", " all", "al", "alll", "nest", "row", "nestedrows",
        "all\n", b"all", ["all"], ("all",), {"all"}, {"all": 1}, [], (), {}, set(), object(), Agreeable(), Unreadable(),
        str, len, looped(), ..., NotImplemented, 1j,
    ]


def not_groupings():
    """What is no grouping of 0 to 6 things."""
    return [
        None, True, False, 0, 1, -1, 10 ** 5000, "", "[]", "all", b"", (), {}, set(), range(0), object(), Agreeable(),
        Unreadable(), list, len, iter([]), ..., NotImplemented, 1j, looped(),
        # a tuple, a text, a dict, bytes in place of a list
        ([0],), ([0], [1]), [(0,)], [(0, 1)], [[0], (1,)], ["0"], [{0: 0}], [{0}], [b"\x00"], [range(1)], {0: [0]},
        # a group that is empty or none
        [[]], [[], [0]], [[0], []], [[0], [], [1]], [0], [0, 1], [None], [[0], None], [True], [[[0]]],
        # strange things
        [[True]], [[False]], [[False, True]], [[0, True]], [[0], [True]], [[None]], [["0"]], [["a"]], [[(0,)]],
        [[0, None]], [[0, "1"]], [[Agreeable()]], [[Unreadable()]], [[0, Unreadable()]], [[0], Unreadable()],
        # a thing missing, below 0, twice, beyond
        [[1]], [[0], [2]], [[0, 2]], [[0, 1, 3], [4]], [[1], [2]], [[-1]], [[-1, 0]], [[-1], [0]], [[0, 0]], [[0], [0]],
        [[0, 1], [1]], [[0, 1], [1, 2]], [[0, 1, 1]], [[0, 10 ** 5000]], [[0], [1], [1]],
        # out of order, within a group or between groups
        [[1, 0]], [[1], [0]], [[0, 2, 1]], [[1, 2], [0]], [[0], [2], [1]], [[0, 3], [2], [1]], [[1], [0, 2]],
        # more than 6 things
        [[0, 1, 2, 3, 4, 5, 6]], [[0], [1], [2], [3], [4], [5], [6]], [[0, 1, 2, 3, 4, 5], [6]],
        [list(range(7))], [list(range(1000))], [[thing] for thing in range(1000)],
    ]


def not_shares():
    """What is no share."""
    return NOT_SHARES + not_numbers() + [0, 1, -1, HUGE]


def not_lists():
    """What is no list."""
    return [
        None, True, False, 0, 1, HUGE, "", "0", "all", b"", b"0", (), (0,), (0, 1), ((1, [0]),), {}, {0: 0}, set(), {0},
        frozenset(), range(1), iter([]), object(), Agreeable(), Unreadable(), list, len, lambda: [], ..., NotImplemented,
        1j, bytearray(b"0"), memoryview(b"0"), ValueError("x"),
    ]


def not_rows():
    """What is no row of any table."""
    bad = not_lists() + [
        # no pair
        [1, [0, 0]], (1,), ([0, 0],), (1, [0, 0], 1), (1, 0, 0), ([0, 0], 1), [[1, [0, 0]]], [(1, [0, 0])], [], [0, 0],
        looped(),
        # a weight of 0 or below
        (0, [0, 0]), (-1, [0, 0]), (-HUGE, [0, 0]),
        # no numbers, five and more
        (1, []), (1, [0, 0, 0, 0, 0]), (1, [0] * 6), (1, [0] * 1000), (1, [[0, 0]]), (1, looped()),
    ]
    bad += [(1, value) for value in not_lists()] + [(value, [0, 0]) for value in not_numbers()]
    bad += [(1, [value, 0]) for value in not_numbers()] + [(1, [0, value]) for value in not_numbers()]
    return bad


def not_tables():
    """What is no table."""
    good = (1, [0, 0])
    bad = not_lists() + [[], looped(), good, list(good), (good,), (good, good), [[good]]]
    bad += [[row] for row in not_rows()]
    for row in not_rows() + [(1, [0]), (1, [0, 0, 0]), (1, [0, 0, 0, 0])]:
        bad += [[row, good], [good, row], [good] * 20 + [row] + [good] * 19]
    bad += [[good] * many for many in [41, 42, 80, 1000]]
    return bad


def not_words(letters):
    """What is no word of so many letters."""
    bad = not_lists() + [looped(), [[0]], [[]], [(0,)], ["0"], [None]]
    bad += [[value] for value in not_numbers()] + [[0, value] for value in not_numbers()]
    bad += [[letters], [-1], [letters + 1], [HUGE], [-HUGE], [0, letters], [letters, 0], [0, -1], [0, 0, 0, 0, 0, -letters]]
    bad += [[0] * 7, [0] * 8, [0] * 1000, [letters - 1] * 7, [letters] * 7, [0] * 5 + [letters], [True] * 7]
    return bad


def not_ways(letters):
    """What are no ways to make letters of so many."""
    good = [1] * letters + [0]
    bad = not_lists() + [[], looped(), good, [0], [[good]], [tuple(good)], tuple([good]), [good, tuple(good)]]
    for way in not_lists() + [[], good[1:], good + [0], good * 2, good * 1000, [good], looped()]:
        bad += [[way], [way, good], [good, way], [good, good, good, way]]
    for value in not_numbers():
        bad += [[[value] + good[1:]], [good[:-1] + [value]], [good, good[:-1] + [value]]]
    bad += [[good] * 5, [good] * 6, [good] * 1000]
    return bad


def not_means():
    """What is no list of 0 to 10 shares."""
    bad = not_lists() + [looped(), [[]], [[(1, 1)]], (1, 1), ((1, 1),), ((1, 1), (1, 1)), {(1, 1): (1, 1)}, {(1, 1)}]
    for value in not_shares():
        bad += [[value], [(1, 1), value], [value, (1, 1)], [(1, 2)] * 9 + [value]]
    bad += [[(1, 1)] * 11, [(0, 1)] * 12, [(1, 2)] * 1000, [(2, 2)] * 11]
    return bad


def not_odd_means():
    """What is no odd count of 1 to 13 shares."""
    bad = not_lists() + [looped(), [[]], [[(1, 1)]], (1, 1), ((1, 1),), ((1, 1), (1, 1), (1, 1)), {(1, 1)}, [1], [1, 0, 1]]
    bad += [[(1, 1)] * many for many in [0, 2, 4, 6, 8, 10, 12, 14, 15, 16, 17, 1001]]
    for value in not_shares():
        bad += [[value], [(1, 1), value, (1, 1)], [(1, 2)] * 12 + [value], [value] + [(1, 2)] * 6]
    return bad


def not_two_letters(letters):
    """Pairs of what are no two unlike ones of so many letters."""
    bad = not_numbers() + [letters, letters + 1, -1, -letters, HUGE, -HUGE, (0, 1), [0, 1]]
    told = [(letter, letter) for letter in range(letters)]
    for value in bad:
        told += [(value, value), (value, 0), (0, value), (value, letters - 1), (letters - 1, value)]
    return told


def not_two_counts():
    """Pairs of what are no numbers from 0 to 40, one above 0."""
    told = [(0, 0)]
    for value in not_numbers() + [41, 42, -1, -40, HUGE, -HUGE, (1, 1), (2, 1)]:
        told += [(value, value), (value, 0), (0, value), (value, 1), (1, value), (value, 40), (40, value)]
    return told


def stays(test, asked, *handed):
    """Ask, see that what was handed in stayed as it was, and tell the answer."""
    before = copy.deepcopy(handed)
    told = asked(*handed)
    test.assertEqual(handed, before)
    return told


def lists_in(value):
    """All lists within a value, itself too."""
    if not isinstance(value, (list, tuple)):
        return []
    found = [value] if isinstance(value, list) else []
    for part in value:
        found += lists_in(part)
    return found


def told_new(test, asked, *handed):
    """See that the answer shares no list with what was handed in or told before."""
    first, second = asked(*handed), asked(*handed)
    test.assertEqual(first, second)
    test.assertIsNot(first, second)
    known = {id(part) for part in lists_in(handed)} | {id(part) for part in lists_in(first)}
    test.assertEqual([part for part in lists_in(second) if id(part) in known], [])
    own = [id(part) for part in lists_in(second)]
    test.assertEqual(len(own), len(set(own)))
    for part in lists_in(first):
        part.clear()
    test.assertEqual(asked(*handed), second)
