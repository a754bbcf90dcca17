"""Values of every kind for the tests of refusals, and what the tests share."""

import copy


class Agreeable:
    """Says that it is equal to anything."""

    def __eq__(self, other):
        return True

    __hash__ = None


class Unreadable:
    """Fails when it is shown, compared or measured."""

    def __repr__(self):
        raise RuntimeError("shown")

    def __eq__(self, other):
        raise RuntimeError("compared")

    def __len__(self):
        raise RuntimeError("measured")

    __hash__ = None


def looped():
    """A list that holds itself."""
    told = []
    told.append(told)
    return told


def not_numbers():
    """What is neither a number nor a share."""
    return [
        True, False, None, "", "0", "1", "all", "nested", b"", b"1", [0], [1], (), (1,), (2, 4), {}, {0: 1}, set(), {1},
        frozenset(), object(), Agreeable(), Unreadable(), int, len, lambda: 1, range(2), iter([1]), looped(), ...,
        NotImplemented, ValueError("x"), 1j, bytearray(b"1"), memoryview(b"1"),
    ]


def not_kinds():
    """What is no kind."""
    return [
        None, True, False, 0, 1, 10 ** 5000, "", "All", "ALL", "all ", " all", "al", "alll", "nest", "row", "nestedrows",
        "all\n", b"all", ["all"], ("all",), {"all"}, {"all": 1}, [], (), {}, set(), object(), Agreeable(), Unreadable(),
        str, len, looped(), ..., NotImplemented, 1j,
    ]


def not_groupings():
    """What is no grouping of 0 to 6 things."""
    return [
        None, True, False, 0, 1, -1, 10 ** 5000, "", "[]", "all", b"", (), {}, set(), range(0), object(), Agreeable(),
        Unreadable(), list, len, iter([]), ..., NotImplemented, 1j, looped(),
        # a tuple, a text, a dict, bytes in place of a list
        ([0],), ([0], [1]), [(0,)], [(0, 1)], [[0], (1,)], ["0"], [{0: 0}], [{0}], [b"\x00"], [range(1)], {0: [0]},
        # a group that is empty or none
        [[]], [[], [0]], [[0], []], [[0], [], [1]], [0], [0, 1], [None], [[0], None], [True], [[[0]]],
        # strange things
        [[True]], [[False]], [[False, True]], [[0, True]], [[0], [True]], [[None]], [["0"]], [["a"]], [[(0,)]],
        [[0, None]], [[0, "1"]], [[Agreeable()]], [[Unreadable()]], [[0, Unreadable()]], [[0], Unreadable()],
        # a thing missing, below 0, twice, beyond
        [[1]], [[0], [2]], [[0, 2]], [[0, 1, 3], [4]], [[1], [2]], [[-1]], [[-1, 0]], [[-1], [0]], [[0, 0]], [[0], [0]],
        [[0, 1], [1]], [[0, 1], [1, 2]], [[0, 1, 1]], [[0, 10 ** 5000]], [[0], [1], [1]],
        # out of order, within a group or between groups
        [[1, 0]], [[1], [0]], [[0, 2, 1]], [[1, 2], [0]], [[0], [2], [1]], [[0, 3], [2], [1]], [[1], [0, 2]],
        # more than 6 things
        [[0, 1, 2, 3, 4, 5, 6]], [[0], [1], [2], [3], [4], [5], [6]], [[0, 1, 2, 3, 4, 5], [6]],
        [list(range(7))], [list(range(1000))], [[thing] for thing in range(1000)],
    ]


def stays(test, asked, *handed):
    """Ask, see that what was handed in stayed as it was, and tell the answer."""
    before = copy.deepcopy(handed)
    told = asked(*handed)
    test.assertEqual(handed, before)
    return told


def lists_in(value):
    """All lists within a value, itself too."""
    if not isinstance(value, (list, tuple)):
        return []
    found = [value] if isinstance(value, list) else []
    for part in value:
        found += lists_in(part)
    return found


def told_new(test, asked, *handed):
    """See that the answer shares no list with what was handed in or told before."""
    first, second = asked(*handed), asked(*handed)
    test.assertEqual(first, second)
    test.assertIsNot(first, second)
    known = {id(part) for part in lists_in(handed)} | {id(part) for part in lists_in(first)}
    test.assertEqual([part for part in lists_in(second) if id(part) in known], [])
    own = [id(part) for part in lists_in(second)]
    test.assertEqual(len(own), len(set(own)))
    for part in lists_in(first):
        part.clear()
    test.assertEqual(asked(*handed), second)
