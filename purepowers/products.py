"""Products of powers of roots, by bases that they share.

Shared bases are integers above 1 of which no two have a common divisor and none is a power. So a product of powers
of them, with any fractions as exponents, is a fraction just if all these exponents are integers.
"""

from math import gcd, lcm

from purepowers.numbers import integer_root_by, power_of


def shared_bases(numbers):
    """Shared bases of whose powers the top and the bottom of each of these numbers, all above 0, are products."""
    found = []
    waiting = [value for number in numbers for value in number if value > 1]
    while waiting:
        value = waiting.pop()
        at = _first_divided(found, value)
        if at is None:
            found.append(value)
        else:
            # Both are products of these three, which are less together: so this comes to its end.
            other = found.pop(at)
            common = gcd(value, other)
            waiting = waiting + [one for one in (common, value // common, other // common) if one > 1]
    # The base of an integer is one, too.
    return [integer_root_by(value, 0)[0] for value in found]


def exponents_by(bases, number):
    """The list of the exponents of the shared bases whose product this number is."""
    top, bottom = number
    return [_many_times(top, base) - _many_times(bottom, base) for base in bases]


def common_degree(roots):
    """The least integer from 1 on that the degree of each root divides."""
    degree = 1
    for root in roots:
        degree = lcm(degree, root.degree)
    return degree


def least_form(roots, powers):
    """The least form of the product of these roots with these powers: its degree, and its number of any size."""
    degree = common_degree(roots)
    bases = shared_bases([root.number for root in roots])
    sums = [0] * len(bases)
    for root, power in zip(roots, powers):
        times = power * (degree // root.degree)
        sums = [one + times * exponent for one, exponent in zip(sums, exponents_by(bases, root.number))]
    # The product is the root with this degree of the product of the bases with these exponents.
    common = degree
    for one in sums:
        common = gcd(common, one)
    return degree // common, _number_by(bases, [one // common for one in sums])


def _first_divided(values, value):
    """The index of the first value that has a common divisor above 1 with this one, or None."""
    for index, other in enumerate(values):
        if gcd(other, value) > 1:
            return index
    return None


def _many_times(value, divisor):
    """How often the integer can be divided by this one."""
    many = 0
    while value % divisor == 0:
        value = value // divisor
        many = many + 1
    return many


def _number_by(bases, exponents):
    """The pair of top and bottom of the product of the shared bases with these exponents."""
    top = bottom = 1
    for base, exponent in zip(bases, exponents):
        if exponent > 0:
            top = top * power_of(base, exponent)
        else:
            bottom = bottom * power_of(base, -exponent)
    return top, bottom
