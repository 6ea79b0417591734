"""Which products of powers of roots are fractions.

A list of powers, one for each of some roots, is a relation of them if the product of the roots with these powers is
a fraction. Sums and multiples of relations are relations, too.
"""


def rests_of(degree, rows):
    """The rests of each root, by the common degree and the exponents that `on_shared_bases` tells.

    They are tuples of integers from 0 to one less than the degree: the exponents, each times the degree, but for
    multiples of it. So powers are a relation just if the rests, each root's times its power, add up to such multiples.
    """
    return [tuple([exponent % degree for exponent in row]) for row in rows]


def relations_of(degree, rests):
    """As many relations as there are roots, such that all relations are sums of multiples of them.

    In the one with the index i the roots before i have the power 0, and the root i has the least power above 0 that
    it has in any relation with these powers 0.
    """
    many = len(rests)
    rows = [[1 if at == index else 0 for at in range(many)] for index in range(many)]
    for values in zip(*rests):
        rows = _restricted(rows, values, degree)
    return rows


def order_of(degree, rests):
    """How many of all products of powers of the roots are unlike when fractions as factors do not count."""
    order = 1
    for index, row in enumerate(relations_of(degree, rests)):
        # Each product is like just one with a power below this one.
        order = order * row[index]
    return order


def _restricted(rows, values, degree):
    """Such rows for all sums of the rows that, each place times its value, give a multiple of the degree."""
    found = []
    # Of all sums of the rows behind, one that gives the least above 0, where the degree itself counts as 0.
    least, kept = degree, [0] * len(rows)
    for index in range(len(rows) - 1, -1, -1):
        row = rows[index]
        given = sum([power * value for power, value in zip(row, values)]) % degree
        if given > 0:
            # As for the greatest common divisor of what both give. In the end the row gives 0.
            while given > 0:
                times = least // given
                lessened = [one - times * other for one, other in zip(kept, row)]
                least, kept, given, row = given, row, least - times * given, lessened
            row = _with_least_powers(row, index, degree)
            kept = [power % degree for power in kept]
        found.append(row)
    return found[::-1]


def _with_least_powers(row, index, degree):
    """The row, or its opposite, with a power above 0 at the index and powers from 0 on behind it."""
    sign = 1 if row[index] > 0 else -1
    # The common degree as a power of one root alone is a relation.
    return row[:index] + [sign * row[index]] + [sign * power % degree for power in row[index + 1:]]
