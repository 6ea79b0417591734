"""Roots of products of powers of 2, 3, 5 and 7, and ways to ask about them that are not the program's."""

from fractions import Fraction
from itertools import product
from math import lcm

from purepowers.roots import Root
from wrong_values import no_integers

PRIMES = (2, 3, 5, 7)


def number_by(exponents):
    """The number that is the product of the primes with these integers as exponents."""
    value = Fraction(1)
    for prime, exponent in zip(PRIMES, exponents):
        value *= Fraction(prime) ** exponent
    return (value.numerator, value.denominator)


def exponents_of(number):
    """The exponents of the primes in this number."""
    found = []
    for prime in PRIMES:
        value, many = Fraction(*number), 0
        while value.numerator % prime == 0:
            value, many = value / prime, many + 1
        while value.denominator % prime == 0:
            value, many = value * prime, many - 1
        found.append(many)
    return tuple(found)


def vector_of(root):
    """The exponents of the primes in the root, as fractions."""
    return tuple([Fraction(exponent, root.degree) for exponent in exponents_of(root.number)])


def form_of(vector):
    """The degree and the number of the least form of the root with these exponents."""
    degree = lcm(*[entry.denominator for entry in vector])
    return degree, number_by([int(entry * degree) for entry in vector])


def root_of(vector):
    degree, number = form_of(vector)
    return Root(number, degree)


def product_vector(vectors, powers):
    """The exponents in the product of powers of the roots with these exponents."""
    return tuple([sum([power * vector[at] for power, vector in zip(powers, vectors)]) for at in range(len(PRIMES))])


def rests(vector):
    """The exponents but for integers: the same ones for roots whose quotient is a fraction."""
    return tuple([entry % 1 for entry in vector])


class Going:
    """All products of powers of some roots, gone through one by one, the least powers first."""

    def __init__(self, roots):
        self.vectors = [vector_of(root) for root in roots]
        self.first = {}
        for powers in product(*[range(root.degree) for root in roots]):
            self.first.setdefault(rests(product_vector(self.vectors, powers)), powers)
        self.degree = len(self.first)

    def told_by(self, root):
        """The number and the least powers by which the root is in the field, or None."""
        powers = self.first.get(rests(vector_of(root)))
        if powers is None:
            return None
        left = [one - other for one, other in zip(vector_of(root), product_vector(self.vectors, powers))]
        return number_by([int(entry) for entry in left]), powers


def some_towers():
    """Towers of one to five roots, few enough products of powers of each to go through."""
    by = Root
    two, three, five, seven = [by((prime, 1), 2) for prime in PRIMES]
    cube, fourth, sixth = by((2, 1), 3), by((2, 1), 4), by((2, 1), 6)
    one, half = by((1, 1), 7), by((1, 2), 1)
    return [
        (two,), (one,), (half,), (cube,), (by((2, 1), 12),), (by((64, 49), 5),), (two, three), (two, two), (two, by((8, 9), 2)),
        (two, cube), (cube, by((4, 1), 3)), (fourth, two), (two, fourth), (one, two, half), (half, one), (two, three, by((6, 1), 2)),
        (by((6, 1), 2), three, two), (by((12, 1), 4), by((18, 1), 4)), (by((12, 1), 4), three, by((3, 1), 4)), (sixth, cube, two),
        (by((2, 3), 3), by((3, 5), 3), by((5, 2), 3)), (by((12, 1), 6), by((18, 1), 6), by((2, 3), 3)), (five, five, five),
        (by((4, 3), 9), by((2, 9), 3)), (by((2, 1), 8), by((3, 1), 8), by((6, 1), 8)), (by((5, 7), 10), by((7, 5), 4)),
        (two, three, five, seven), (two, by((10, 3), 2), five, three), (fourth, by((9, 2), 4), three, half),
        (by((2, 3), 6), by((3, 2), 4), two, cube), (two, half, three, one, five), (two, three, five, seven, by((210, 1), 2)),
        (two, three, by((6, 1), 2), by((2, 3), 2), by((3, 2), 2)), (by((2, 1), 6), by((4, 3), 3), by((3, 1), 2), cube, three),
        (by((10, 1), 3), by((15, 1), 3), by((6, 1), 3), by((3, 5), 3), by((2, 5), 3)), (cube, cube, two, two, fourth),
        (by((50, 21), 4), by((14, 15), 4), by((9, 14), 2)), (by((72, 1), 5), by((2, 7), 5), by((12, 7), 5)),
    ]


def some_roots():
    """Roots that lie in the field of some of these towers and not in that of others."""
    numbers = ((1, 1), (2, 1), (3, 1), (1, 2), (6, 1), (4, 1), (2, 3), (12, 1), (18, 1), (5, 1), (10, 21), (210, 1), (8, 9), (3, 5), (49, 4))
    return [Root(number, n) for number in numbers for n in (1, 2, 3, 4, 5, 6, 8, 12)]


def no_roots():
    """Values that are no roots."""
    root = Root((2, 1), 2)
    return no_integers() + [2, (2, 1), "2 of 2", Root, (root,), [root], {1: root}, root.times, ((2, 1), 2)]


def no_towers():
    """Pairs of values that are no towers, and of the index that is told."""
    root, other = Root((2, 1), 2), Root((3, 1), 1)
    kinds = [(value, None) for value in no_roots() if not isinstance(value, tuple)] + [(root, None), ([], None), ((), None)]
    lists = [([root, other], None), ([root] * 6, None), (([root],), 0), ((root, [other]), 1), (((root, other),), 0)]
    firsts = [((value,), 0) for value in no_roots()] + [((value, root, None), 0) for value in no_roots()]
    others = [((root, value, root), 1) for value in no_roots()] + [((root,) * 4 + (value,), 4) for value in no_roots()]
    many = [((root,) * 6, 5), ((root, other) * 3, 5), ((root,) * 5 + (None,), 5), ((other,) * 300, 5)]
    earlier = [((root, None) * 3, 1), ((root,) * 4 + ("2 of 2", root, root), 4), ((None,) * 6, 0)]
    return kinds + lists + firsts + others + many + earlier
