"""Towers: the degree of their field, the roots that lie in it, and those that are needless."""

from purepowers.errors import InvalidRoots, TooGreat
from purepowers.limits import MOST_ROOTS, MOST_SIZE
from purepowers.products import number_by, on_shared_bases, sum_of_rows
from purepowers.relations import order_of, relations_of, rests_of
from purepowers.roots import Root, check_root


def degree_of(roots):
    """The degree of the tower."""
    check_roots(roots)
    return degree_of_any(roots)


def is_in(root, roots):
    """Whether the root lies in the field of the tower."""
    check_root(root)
    check_roots(roots)
    degree, _, rows = on_shared_bases((root, *roots))
    return _powers_for_first(degree, rows) is not None


def told_by(root, roots):
    """The fraction and the least exponents by which the root is a product of powers of the roots, or None."""
    check_root(root)
    check_roots(roots)
    degree, bases, rows = on_shared_bases((root, *roots))
    powers = _powers_for_first(degree, rows)
    if powers is None:
        return None
    sums = sum_of_rows(rows, [1] + [-power for power in powers])
    number = number_by(bases, [one // degree for one in sums])
    if max(number) > MOST_SIZE:
        raise TooGreat(max(number))
    return number, powers


def needless(roots):
    """The indexes of the roots that lie in the field of all others."""
    check_roots(roots)
    degree, rests = _rests_by_degree(roots)
    whole = order_of(degree, rests)
    indexes = list(range(len(roots)))
    return tuple([at for at in indexes if _are_enough(roots, indexes[:at] + indexes[at + 1:], degree, rests, whole)])


def least_parts(roots):
    """All sets of as few indexes as can be whose roots make the same field."""
    check_roots(roots)
    degree, rests = _rests_by_degree(roots)
    whole = order_of(degree, rests)
    found = ()
    for many in range(len(roots) + 1):
        if not found:
            sets = _sets_of_indexes(len(roots), many)
            found = tuple([indexes for indexes in sets if _are_enough(roots, indexes, degree, rests, whole)])
    return found


def are_independent(roots):
    """Whether no sum of the roots times fractions is 0 unless all these are."""
    check_roots(roots)
    _, rests = _rests_by_degree(roots)
    # The quotient of two roots is a fraction just if they have the same rests.
    return len(set(rests)) == len(rests)


def is_same_field(roots, others):
    """Whether the two towers have the same field."""
    check_roots(roots)
    check_roots(others)
    degree, rests = _rests_by_degree(roots + others)
    both = order_of(degree, rests)
    return order_of(degree, rests[:len(roots)]) == both and order_of(degree, rests[len(roots):]) == both


def check_roots(roots):
    """InvalidRoots if this is no tower."""
    if not isinstance(roots, tuple) or not roots:
        raise InvalidRoots(None)
    for index, root in enumerate(roots):
        if index == MOST_ROOTS or not isinstance(root, Root):
            raise InvalidRoots(index)


def degree_of_any(roots):
    """The degree of the tower of these roots, also of none."""
    degree, rests = _rests_by_degree(roots)
    return order_of(degree, rests)


def _rests_by_degree(roots):
    """The common degree of the roots, and their rests by it."""
    degree, _, rows = on_shared_bases(roots)
    return degree, rests_of(degree, rows)


def _powers_for_first(degree, rows):
    """The least powers of all roots but the first whose product is a fraction times it, as a tuple, or None."""
    first, *others = relations_of(degree, rests_of(degree, rows))
    if first[0] > 1:
        return None
    powers = [-power for power in first]
    # By the relations without the first root: each power is made as small as can be, those ahead of it staying so.
    for index, row in enumerate(others, start=1):
        times = powers[index] // row[index]
        powers = [power - times * other for power, other in zip(powers, row)]
    return tuple(powers[1:])


def _are_enough(roots, indexes, degree, rests, whole):
    """Whether the roots with these indexes make the field of all, whose degree is `whole`."""
    most = 1
    for at in indexes:
        most = most * roots[at].degree
    # The degree of a tower is at most the product of the degrees of its roots.
    return most >= whole and order_of(degree, [rests[at] for at in indexes]) == whole


def _sets_of_indexes(count, many):
    """All sets of so many of the first indexes, as ascending tuples, ascending."""
    found = [()]
    for _ in range(many):
        found = [chosen + (at,) for chosen in found for at in range(count) if not chosen or at > chosen[-1]]
    return found
