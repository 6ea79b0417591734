"""When an equation x ** n - a splits, by which factor, and into which parts."""

from math import gcd, isqrt

from purepowers.checks import check_degree, check_number
from purepowers.numbers import (
    base_of, four_root_of_any, fraction_root_by, multiplied, number_root_by, odd_part, power_of,
)

MOST_FACTORED = 10 ** 6
MOST_PARTED = 1000
# To the greatest common divisor of d and 8: the rest that s leaves by 4, where d is the divisor to which a part
# belongs, and s the integer whose product with the base of this part is a square. With 8, there is no such s.
RESTS_OF_HALVED = {1: 1, 2: 3, 4: 2}


def splits(number, n):
    """Whether the equation splits."""
    check_number(number)
    check_degree(n)
    _, exponent = number_root_by(number, n)
    if exponent > 1:
        return True
    return n % 4 == 0 and four_root_of_any(number) is not None


def why(number, n):
    """The reason for which the equation splits, or None."""
    check_number(number)
    check_degree(n, 1, MOST_FACTORED)
    (top, bottom), exponent = number_root_by(number, n)
    if exponent > 1:
        prime = least_prime_of(exponent)
        power = exponent // prime
        return "power", prime, (power_of(top, power), power_of(bottom, power))
    root = four_root_of_any(number) if n % 4 == 0 else None
    if root is None:
        return None
    return "four", root


def factor(number, n):
    """The terms of a factor of the equation, or None."""
    reason = why(number, n)
    if reason is None:
        return None
    if reason[0] == "four":
        return _factor_of_four(reason[1], n)
    _, prime, (top, bottom) = reason
    return (n // prime, (1, 1)), (0, (-top, bottom))


def _factor_of_four(root, n):
    """The terms of x ** (n / 2) + 2 b x ** (n / 4) + 2 b ** 2, b being the root."""
    square = root[0] * root[0], root[1] * root[1]
    return (n // 2, (1, 1)), (n // 4, multiplied(root, 2)), (0, multiplied(square, 2))


def is_always_whole(number):
    """Whether all equations of the number are whole."""
    check_number(number)
    return steps_of(number) == ()


def parts(number, n):
    """The degrees of the parts of the equation, ascending, each with how many there are."""
    check_number(number)
    check_degree(n, 1, MOST_PARTED)
    base, exponent = base_of(number)
    if number[0] > 0:
        counts = _count_by_degree(base, exponent, n)
    else:
        # With the opposite c: x ** (2 * n) - c ** 2 is x ** n - c times x ** n + c.
        counts = _count_by_degree(base, 2 * exponent, 2 * n)
        for degree, many in _count_by_degree(base, exponent, n).items():
            counts[degree] = counts[degree] - many
    return tuple([(degree, counts[degree]) for degree in sorted(counts) if counts[degree] > 0])


def count_parts(number, n):
    """How many parts the equation has."""
    return sum([many for degree, many in parts(number, n)])


def steps_of(number):
    """The primes, and perhaps 4, such that the equation splits just for the n that one of them divides.

    They are an ascending tuple. For 1 and -1, of which all primes or all odd ones are steps, it is None.
    This holds also for numbers somewhat beyond 10 ** 30, as told at `integer_root_by`.
    """
    top, bottom = number
    _, exponent = fraction_root_by(abs(top), bottom, 0)
    if exponent == 0:
        return None
    if exponent == 1:
        return ()
    primes = primes_of(exponent)
    if top > 0:
        return tuple(primes)
    # The opposite of a four is a square.
    is_four = exponent % 2 == 0 and four_root_of_any(number) is not None
    return tuple(steps_below(primes, is_four))


def odd_ones(primes):
    """The list of the odd ones of these primes."""
    return [prime for prime in primes if prime > 2]


def steps_below(primes, is_four):
    """The steps of a number below 0, with these primes in its exponent, ascending."""
    if is_four:
        return sorted(odd_ones(primes) + [4])
    return odd_ones(primes)


def primes_of(value):
    """The list of the primes that divide an integer from 1 on, ascending."""
    found = []
    while value > 1:
        prime = least_prime_of(value)
        found.append(prime)
        while value % prime == 0:
            value = value // prime
    return found


def least_prime_of(value):
    """The least prime that divides an integer from 2 on."""
    if value % 2 == 0:
        return 2
    divisor = 3
    while divisor * divisor <= value:
        if value % divisor == 0:
            return divisor
        divisor = divisor + 2
    return value


def _count_by_degree(base, exponent, n):
    """How many parts of which degree the equation of the base's power with this exponent has, as a dict."""
    common = gcd(n, exponent)
    degree = n // common
    # The number b is a square times s or over s just if the product of its top and bottom is.
    product = power_of(base[0] * base[1], exponent // common)
    counts = {}
    for divisor in range(1, common + 1):
        if common % divisor == 0:
            part, many = degree * _totient(divisor), 1
            if degree % 2 == 0 and _is_halved(product, divisor):
                part, many = part // 2, 2
            counts[part] = counts.get(part, 0) + many
    return counts


def _is_halved(product, divisor):
    """Whether there are two parts for this divisor of the exponent, if the degree is even."""
    evenness = gcd(divisor, 8)
    if evenness == 8:
        return False
    rest = RESTS_OF_HALVED[evenness]
    return any([divisor % s == 0 and _is_square(product * s) for s in range(rest, divisor + 1, 4)])


def _is_square(value):
    """Whether an integer from 0 on is a square."""
    root = isqrt(value)
    return root * root == value


def _totient(value):
    """How many integers from 1 to this one have no common divisor with it."""
    many = value
    for prime in primes_of(value):
        many = many // prime * (prime - 1)
    return many
