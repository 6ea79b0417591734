"""How many equations split: of one number, or of all integers up to a bound."""

from purepowers.checks import check_degree, check_number, is_sign
from purepowers.errors import InvalidKind
from purepowers.limits import MOST_SIZE
from purepowers.numbers import any_multiple, floor_root
from purepowers.splitting import odd_ones, primes_of, steps_of

MOST_COUNTED = 10 ** 18
MOST_COUNTED_DEGREE = 1000
# The prime exponents that integers above 1 and up to 10 ** 18 can have.
PRIMES = (2, 3, 5, 7, 11, 13, 17, 19, 23, 29, 31, 37, 41, 43, 47, 53, 59)


def first_split(number):
    """The least n for which the equation splits, or None."""
    # No equation with the n 1 splits.
    return next_split(number, 1)


def count_splits(number, many):
    """For how many n from 1 to `many` the equation splits."""
    check_number(number)
    check_degree(many, 0, MOST_SIZE)
    steps = steps_of(number)
    if steps is not None:
        return _count_reached(steps, many, _multiples)
    if number[0] > 0:
        return max(many - 1, 0)
    # For -1 it is whole just if n is a power of 2.
    return many - many.bit_length()


def next_split(number, n):
    """The least n above this one for which the equation splits, or None."""
    check_number(number)
    check_degree(n)
    steps = steps_of(number)
    if steps is None:
        return n + 2 if number[0] < 0 and _is_power_of_two(n + 1) else n + 1
    if not steps:
        return None
    return min([(n // step + 1) * step for step in steps])


def nth_split(number, place):
    """The n with this place among all n for which the equation splits, or None."""
    check_number(number)
    check_degree(place)
    steps = steps_of(number)
    if steps is None:
        return place + 1 if number[0] > 0 else _nth_no_power_of_two(place)
    if not steps:
        return None
    period = 1
    for step in steps:
        period = period * step
    # Behind each period, those that split come again at the same distances.
    first_ones = sorted({n for step in steps for n in range(step, period + 1, step)})
    rounds, left = divmod(place - 1, len(first_ones))
    return rounds * period + first_ones[left]


def count_always(many, sign):
    """How many of the integers with this sign, up to `many`, are always whole."""
    check_degree(many, 0, MOST_COUNTED)
    _check_sign(sign)
    return many - _count_split(PRIMES, True, many, sign)


def least_times(number):
    """The least integer from 1 on such that the number times it is always whole."""
    check_number(number)
    times = 1
    # A prime that divides neither top nor bottom makes the exponent 1. So this ends below 200, as the product of all
    # primes up to there is beyond 10 ** 60, and no product is too great for steps_of.
    while steps_of(any_multiple(number, times)) != ():
        times = times + 1
    return times


def count_numbers(n, many, sign):
    """For how many integers with this sign, up to `many`, the equation with n splits."""
    check_degree(n, 1, MOST_COUNTED_DEGREE)
    check_degree(many, 0, MOST_COUNTED)
    _check_sign(sign)
    return _count_split(primes_of(n), n % 4 == 0, many, sign)


def _check_sign(sign):
    """InvalidKind if this is neither 1 nor -1."""
    if not is_sign(sign):
        raise InvalidKind(sign)


def _count_split(primes, with_fours, many, sign):
    """How many integers with this sign, up to `many`, split by one of the primes or, if they count, as fours."""
    if many == 0:
        return 0
    if sign == -1:
        primes = odd_ones(primes)
    counted = _count_reached(primes, many - 1, _powers)
    if primes:
        # 1 and -1 are left out by _powers.
        counted = counted + 1
    if sign == -1 and with_fours:
        fours = floor_root(many // 4, 4)
        counted = counted + fours - _count_reached(primes, fours, _powers_among_fours)
    return counted


def _count_reached(steps, many, reached):
    """How many of so many places one or more of the steps reach.

    `reached(many, step)` tells how many of the first places one step reaches. To the other steps those are
    again like so many first places. The steps ascend; a greater one reaches no more than a lesser one.
    """
    if not steps:
        return 0
    alone = reached(many, steps[0])
    if alone == 0:
        return 0
    others = steps[1:]
    return _count_reached(others, many, reached) + alone - _count_reached(others, alone, reached)


def _multiples(many, step):
    """How many of the first integers from 1 on the step divides."""
    return many // step


def _powers(many, prime):
    """How many of the first integers from 2 on are powers with this exponent."""
    return floor_root(many + 1, prime) - 1


def _powers_among_fours(many, prime):
    """For how many of the first integers b from 1 on 4 * b ** 4 is a power with this odd exponent."""
    # So is 2 * b ** 2 then, which makes b the product of w ** prime and of 2 ** ((prime - 1) / 2) for some w;
    # it is the power of 2 * w ** 2, so that w is as b was to the other primes.
    return floor_root(many >> (prime // 2), prime)


def _is_power_of_two(value):
    """Whether an integer from 1 on is a power of 2, or 1."""
    return value & (value - 1) == 0


def _nth_no_power_of_two(place):
    """The integer that is no power of 2, nor 1, and has this place among all of them."""
    n = place
    # So many powers of 2 there are up to n: beside them, there have to be as many others as the place tells.
    while n != place + n.bit_length():
        n = place + n.bit_length()
    return n
