"""Products of powers of roots, by bases that they share.

Shared bases are integers above 1 of which no two have a common divisor and none is a power. So a product of powers
of them, with any fractions as exponents, is a fraction just if all these exponents are integers.
"""

from math import gcd, lcm

from purepowers.numbers import divided_out, integer_root_by, power_of


def on_shared_bases(roots):
    """A degree, shared bases, and to each root the list of its exponents by them, each times the degree.

    The degree is the least integer from 1 on that makes integers of all exponents in such a list.
    """
    numbers = [root.number for root in roots]
    bases = shared_bases(numbers)
    degree = 1
    for root in roots:
        degree = lcm(degree, root.degree)
    rows = []
    for root in roots:
        top, bottom = root.number
        times = degree // root.degree
        rows.append([times * (_many_times(top, base) - _many_times(bottom, base)) for base in bases])
    return degree, bases, rows


def shared_bases(numbers):
    """Shared bases of whose powers the top and the bottom of each of these numbers, all above 0, are products."""
    found = []
    waiting = [value for number in numbers for value in number if value > 1]
    while waiting:
        value = waiting.pop()
        at = _first_divided(found, value)
        if at is None:
            found.append(value)
        else:
            # Both are products of powers of these three, which are less together: so this comes to its end.
            other = found.pop(at)
            common = gcd(value, other)
            left = [divided_out(value, common)[1], divided_out(other, common)[1]]
            waiting = waiting + [common] + [one for one in left if one > 1]
    # The base of an integer is one, too.
    return [integer_root_by(value, 0)[0] for value in found]


def least_form(roots, powers):
    """The least form of the product of these roots with these powers: its degree, shared bases, and its number by them.

    The number is the list of the exponents of the bases. It may be far too great to be told in digits.
    """
    degree, bases, rows = on_shared_bases(roots)
    sums = sum_of_rows(rows, powers)
    # The product is the root with this degree of the product of the bases with these exponents.
    common = degree
    for one in sums:
        common = gcd(common, one)
    return degree // common, bases, [one // common for one in sums]


def sum_of_rows(rows, powers):
    """The sum of these rows, each times its power."""
    sums = [0] * len(rows[0])
    for row, power in zip(rows, powers):
        sums = [one + power * exponent for one, exponent in zip(sums, row)]
    return sums


def number_by(bases, exponents):
    """The pair of top and bottom, of any size, of the product of the shared bases with these exponents."""
    top = 1
    bottom = 1
    for base, exponent in zip(bases, exponents):
        if exponent > 0:
            top = top * power_of(base, exponent)
        elif exponent < 0:
            bottom = bottom * power_of(base, -exponent)
    return top, bottom


def _first_divided(values, value):
    """The index of the first value that has a common divisor above 1 with this one, or None."""
    for index, other in enumerate(values):
        if gcd(other, value) > 1:
            return index
    return None


def _many_times(value, divisor):
    """How often the integer can be divided by this one."""
    if value % divisor != 0:
        return 0
    return divided_out(value, divisor)[0]
