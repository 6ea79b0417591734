"""Values of wrong kinds, and how the tests ask for an error."""


class Stranger:
    """An object that refuses to be compared, measured or shown."""

    __hash__ = object.__hash__

    def __eq__(self, other):
        raise AssertionError("compared")

    __ne__ = __lt__ = __le__ = __gt__ = __ge__ = __eq__

    def __len__(self):
        raise AssertionError("measured")

    def __bool__(self):
        raise AssertionError("tested")

    def __iter__(self):
        raise AssertionError("iterated")

    def __index__(self):
        return 1


def nested(depth):
    """A tuple that is nested this deep."""
    value = ()
    for _ in range(depth):
        value = (value,)
    return value


def no_integers():
    """Values of all kinds, none of them an integer, a number or a text of a number."""
    return [
        None, True, False, NotImplemented, ..., "", "1", "one", b"", b"1", (), (1,), [], [1], {}, {1: 1}, {1}, set(),
        frozenset({1}), range(1), object(), Stranger(), int, len, lambda: 1, 1j, ValueError("1"), nested(19),
    ]


def no_numbers():
    """Values of which none is a number."""
    size = 10 ** 30
    kinds = no_integers() + [0, 1, -3, "1/2", "12", {1: 2, 2: 3}, {2, 3}, range(1, 3)]
    lengths = [(1,), (1, 2, 3), (1, 2, None), ((1, 2),), ((1, 2), 3), (1, (2,)), (1, (2, 3)), ((1, 2), (3, 4))]
    lists = [[1, 2], [3, 1], ([1], 2), (1, [2]), [(1, 2)]]
    truths = [(True, 1), (True, 2), (1, True), (3, True), (False, 1), (True, True), (1, False), (-1, True)]
    parts = [(value, 2) for value in no_integers()] + [(3, value) for value in no_integers()]
    texts = [("1", "2"), ("1", 2), (1, "2"), (b"1", 2)]
    tops = [(0, 1), (0, 2), (0, 0), (size + 1, 1), (-size - 1, 1), (size + 1, 7), (10 ** 31 + 1, 1), (-10 ** 60, 1)]
    bottoms = [(1, 0), (3, 0), (-1, 0), (1, -1), (-3, -4), (3, -4), (1, -size), (1, size + 1), (-1, 10 ** 60)]
    divisors = [
        (2, 4), (-2, 4), (4, 2), (-6, 3), (5, 5), (-5, 5), (6, 9), (-15, 25), (size, size), (size, 2), (-5, size),
        (2 * 3 ** 60, 2 ** 70), (999999999999989 * 7, 999999999999989),
    ]
    return kinds + lengths + lists + truths + parts + texts + tops + bottoms + divisors


def no_degrees():
    """Values that are no integers from 1 to 10 ** 30."""
    return no_integers() + [0, -1, -2, -10 ** 30, 10 ** 30 + 1, 10 ** 31, -10 ** 60, (1, 1), [2], "10"]


def raised_by(case, error, call, *values, **named):
    """The error of just this class that the call raises."""
    with case.assertRaises(error) as caught:
        call(*values, **named)
    case.assertIs(caught.exception.__class__, error)
    return caught.exception


def assert_told(case, error, given, call, *values, **named):
    """The call raises just this class of error, with the very value as `given`."""
    case.assertIs(raised_by(case, error, call, *values, **named).given, given)
