"""Values of wrong kinds, and how the tests ask for an error."""

import inspect


class Stranger:
    """An object that refuses to be compared, measured or shown."""

    __hash__ = object.__hash__

    def __eq__(self, other):
        raise AssertionError("compared")

    __ne__ = __lt__ = __le__ = __gt__ = __ge__ = __eq__

    def __len__(self):
        raise AssertionError("measured")

    def __bool__(self):
        raise AssertionError("tested")

    def __iter__(self):
        raise AssertionError("iterated")

    def __index__(self):
        return 1


class Same:
    """An object that by itself is equal to everything."""

    __hash__ = object.__hash__

    def __eq__(self, other):
        return True

    def __ne__(self, other):
        return False


def assert_alone(case, one, other):
    """Two objects of one class, each of which equals itself alone."""
    values = [other, Same(), Stranger(), None, True, 1, 0, "", "one", (), [], {}, (one,), [one], object(), one.__class__]
    case.assertTrue(one == one)
    case.assertFalse(one != one)
    for value in values:
        case.assertFalse(one == value)
        case.assertTrue(one != value)


def nested(depth):
    """A tuple that is nested this deep."""
    value = ()
    for _ in range(depth):
        value = (value,)
    return value


def no_integers():
    """Values of all kinds, none of them an integer, a number or a text of a number."""
    return [
        None, True, False, NotImplemented, ..., "", "1", "one", b"", b"1", (), (1,), [], [1], {}, {1: 1}, {1}, set(),
        frozenset({1}), range(1), object(), Stranger(), Same(), int, len, lambda: 1, 1j, ValueError("1"), nested(19),
    ]


def no_numbers():
    """Values of which none is a number."""
    size = 10 ** 30
    kinds = no_integers() + [0, 1, -3, "1/2", "12", {1: 2, 2: 3}, {2, 3}, range(1, 3)]
    lengths = [(1,), (1, 2, 3), (1, 2, None), ((1, 2),), ((1, 2), 3), (1, (2,)), (1, (2, 3)), ((1, 2), (3, 4))]
    lists = [[1, 2], [3, 1], ([1], 2), (1, [2]), [(1, 2)]]
    truths = [(True, 1), (True, 2), (1, True), (3, True), (False, 1), (True, True), (1, False), (-1, True)]
    parts = [(value, 2) for value in no_integers()] + [(3, value) for value in no_integers()]
    texts = [("1", "2"), ("1", 2), (1, "2"), (b"1", 2)]
    tops = [(0, 1), (0, 2), (0, 0), (size + 1, 1), (-size - 1, 1), (size + 1, 7), (10 ** 31 + 1, 1), (-10 ** 60, 1)]
    bottoms = [(1, 0), (3, 0), (-1, 0), (1, -1), (-3, -4), (3, -4), (1, -size), (1, size + 1), (-1, 10 ** 60)]
    divisors = [
        (2, 4), (-2, 4), (4, 2), (-6, 3), (5, 5), (-5, 5), (6, 9), (-15, 25), (size, size), (size, 2), (-5, size),
        (2 * 3 ** 60, 2 ** 70), (999999999999989 * 7, 999999999999989),
    ]
    return kinds + lengths + lists + truths + parts + texts + tops + bottoms + divisors


def no_degrees(least=1, most=10 ** 30):
    """Values that are no integers from the least to the most."""
    beyond = [least - 1, least - 2, -10 ** 30, most + 1, most + 2, 10 * most, -10 ** 60]
    return no_integers() + beyond + [(1, 1), [2], "10"]


def no_signs():
    """Values that are neither 1 nor -1."""
    return no_integers() + [0, 2, -2, 3, 10 ** 30, "-1", (-1,), [1]]


def told_as_given(values):
    """Pairs of each value and of what its error tells as `given`: the value itself."""
    return [(value, value) for value in values]


def raised_by(case, error, call, *values, **named):
    """The error of just this class that the call raises."""
    with case.assertRaises(error) as caught:
        call(*values, **named)
    case.assertIs(caught.exception.__class__, error)
    return caught.exception


def assert_told(case, error, given, call, *values, **named):
    """The call raises just this class of error, with the very value as `given`."""
    case.assertIs(raised_by(case, error, call, *values, **named).given, given)


def assert_each_argument(case, function, *rows):
    """The function looks at its arguments one by one: each row is about one of them, in order.

    A row is a valid value, the class of the error for others, the name of its attribute, and pairs of a
    wrong value and of what the attribute then is.
    """
    parameters = inspect.signature(function).parameters.values()
    case.assertEqual([one.kind for one in parameters], [inspect.Parameter.POSITIONAL_OR_KEYWORD] * len(rows))
    case.assertEqual([one.default for one in parameters], [inspect.Parameter.empty] * len(rows))
    names = [one.name for one in parameters]
    valid = [row[0] for row in rows]
    all_wrong = [row[3][0][0] for row in rows]
    for at, (_, error, attribute, pairs) in enumerate(rows):
        for wrong, told in pairs:
            # What stands behind is not looked at any more.
            for behind in (valid, all_wrong):
                values = valid[:at] + [wrong] + behind[at + 1:]
                with case.subTest(function.__name__, name=names[at], kind=wrong.__class__):
                    case.assertIs(getattr(raised_by(case, error, function, *values), attribute), told)
                    named = dict(reversed(list(zip(names, values))))
                    case.assertIs(getattr(raised_by(case, error, function, **named), attribute), told)
