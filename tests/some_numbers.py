"""Numbers of all forms, and ways to ask about them that are not the program's."""

from fractions import Fraction
from math import gcd

SIZE = 10 ** 30
GREAT = (
    (SIZE, 1), (-SIZE, 1), (1, SIZE), (-1, SIZE), (SIZE, SIZE - 1), (-SIZE, SIZE - 1), (SIZE - 1, SIZE),
    (1 - SIZE, SIZE), (SIZE - 1, 1), (1, SIZE - 1), (2 ** 99, 3 ** 62), (-(3 ** 62), 2 ** 99),
)


def small_numbers(most):
    """All numbers with top, but for its sign, and bottom up to this."""
    return [
        (sign * top, bottom)
        for top in range(1, most + 1) for bottom in range(1, most + 1) for sign in (1, -1) if gcd(top, bottom) == 1
    ]


def prime_exponents(value):
    """The exponents of the primes in this integer above 0: another way to the exponent than the program's."""
    found = []
    prime = 2
    while value > 1:
        many = 0
        while value % prime == 0:
            value //= prime
            many += 1
        if many:
            found.append(many)
        prime += 1
    return found


def exponent_by_primes(number):
    return gcd(*prime_exponents(abs(number[0])), *prime_exponents(number[1]))


def is_four_by_primes(number):
    """Whether the number is -4 * b ** 4 for some b."""
    if number[0] > 0:
        return False
    power = Fraction(-number[0], 4 * number[1])
    return all([many % 4 == 0 for many in prime_exponents(power.numerator) + prime_exponents(power.denominator)])


def steps_by_primes(number):
    """What an n is divided by, by one or more, just if the equation splits; not for 1 and -1."""
    exponent = exponent_by_primes(number)
    primes = [prime for prime in primes_in(exponent) if prime > 2 or number[0] > 0]
    return sorted(primes + [4] * is_four_by_primes(number))


def as_power(number, n):
    """The pair that is the power of this number."""
    return (number[0] ** n, number[1] ** n)


def is_small(number):
    return max(abs(number[0]), number[1]) <= SIZE


def some_powers():
    """Pairs of a positive number that is no power and an exponent, for all exponents that there can be."""
    bases = ((2, 1), (1, 2), (3, 1), (2, 3), (3, 2), (6, 1), (1, 6), (10, 1), (10, 7), (12, 1), (1, 18), (72, 5), (97, 89))
    return [(base, n) for base in bases for n in range(1, 100) if is_small(as_power(base, n))]


def primes_up_to(most):
    """All primes up to this integer, ascending."""
    return [value for value in range(2, most + 1) if all([value % other for other in range(2, value)])]


PRIMES = primes_up_to(1000)


def primes_in(n):
    """The primes that divide an integer from 1 to 1000, ascending."""
    return [prime for prime in PRIMES if n % prime == 0]


def tried_root(value, n):
    """The n-th root of a small integer from 1 on, or None."""
    near = round(value ** (1 / n))
    found = [root for root in (near - 1, near, near + 1) if root > 0 and root ** n == value]
    return found[0] if found else None


def tried_power_root(number, n):
    """The number whose power with the exponent n is this small number, or None."""
    if number[0] < 0 and n % 2 == 0:
        return None
    top, bottom = tried_root(abs(number[0]), n), tried_root(number[1], n)
    if top is None or bottom is None:
        return None
    return (top, bottom) if number[0] > 0 else (-top, bottom)


def tried_four_root(number):
    """The positive b such that this small number is -4 * b ** 4, or None."""
    if number[0] > 0:
        return None
    power = Fraction(-number[0], 4 * number[1])
    top, bottom = tried_root(power.numerator, 4), tried_root(power.denominator, 4)
    return None if top is None or bottom is None else (top, bottom)


def tried_reason(number, n):
    """What `why` has to tell about a small number and an n up to 1000."""
    for prime in primes_in(n):
        root = tried_power_root(number, prime)
        if root is not None:
            return ("power", prime, root)
    root = tried_four_root(number)
    if n % 4 == 0 and root is not None:
        return ("four", root)
    return None


def whole_root(value, n):
    """The n-th root of an integer from 1 on, rounded down, by halving."""
    low, high = 1, 1 << (value.bit_length() // n + 1)
    while high - low > 1:
        middle = (low + high) // 2
        low, high = (middle, high) if middle ** n <= value else (low, middle)
    return low


def tried_base(top, bottom):
    """The base and the exponent of a fraction above 0, by trying all exponents from the greatest one on."""
    if top == bottom:
        return (1, 1), 0
    for n in range(max(top, bottom).bit_length(), 0, -1):
        root = (whole_root(top, n), whole_root(bottom, n))
        if as_power(root, n) == (top, bottom):
            return root, n
    raise AssertionError((top, bottom))


# Around 251, up to which divisors in common are sought, and products of primes below it and above.
BASES = (2, 3, 4, 5, 6, 7, 12, 251, 253, 256, 257, 258, 263, 514, 251 * 257, 257 ** 2, 257 * 263, 2 * 257 ** 2, 4 * 263, 65537, 10 ** 6 + 3)


def powers_of_all_sizes():
    """Pairs of an integer and an exponent, with every exponent that there can be, the greatest powers among them."""
    found = []
    for n in range(1, 100):
        greatest = whole_root(SIZE, n)
        for base in sorted({*BASES, greatest, greatest - 1, greatest // 2, greatest // 3 + 1}):
            if base > 1 and base ** n <= SIZE:
                found.append((base, n))
    return found
