"""Towers: the degree of their field, the roots that lie in it, and those that are needless."""

from purepowers.errors import InvalidRoots, TooGreat
from purepowers.limits import MOST_ROOTS, MOST_SIZE
from purepowers.products import least_form
from purepowers.relations import order_of, relations_of, rests_of
from purepowers.roots import Root, check_root


def degree_of(roots):
    """The degree of the tower."""
    check_roots(roots)
    return degree_of_any(roots)


def is_in(root, roots):
    """Whether the root lies in the field of the tower."""
    check_root(root)
    check_roots(roots)
    return _powers_for(root, roots) is not None


def told_by(root, roots):
    """The fraction and the least exponents by which the root is a product of powers of the roots, or None."""
    check_root(root)
    check_roots(roots)
    powers = _powers_for(root, roots)
    if powers is None:
        return None
    opposites = [-power for power in powers]
    _, number = least_form((root, *roots), (1, *opposites))
    if max(number) > MOST_SIZE:
        raise TooGreat(max(number))
    return number, powers


def needless(roots):
    """The indexes of the roots that lie in the field of all others."""
    check_roots(roots)
    degree, rests = rests_of(roots)
    whole = order_of(degree, rests)
    return tuple([at for at in range(len(rests)) if order_of(degree, rests[:at] + rests[at + 1:]) == whole])


def least_parts(roots):
    """All sets of as few indexes as can be whose roots make the same field."""
    check_roots(roots)
    degree, rests = rests_of(roots)
    whole = order_of(degree, rests)
    sets = [indexes for indexes in _sets_of_indexes(len(rests))
            if order_of(degree, [rests[at] for at in indexes]) == whole]
    fewest = min([len(indexes) for indexes in sets])
    return tuple([indexes for indexes in sets if len(indexes) == fewest])


def are_independent(roots):
    """Whether no sum of the roots times fractions is 0 unless all these are."""
    check_roots(roots)
    _, rests = rests_of(roots)
    # The quotient of two roots is a fraction just if they have the same rests.
    return len(set(rests)) == len(rests)


def is_same_field(roots, others):
    """Whether the two towers have the same field."""
    check_roots(roots)
    check_roots(others)
    degree, rests = rests_of(roots + others)
    both = order_of(degree, rests)
    return order_of(degree, rests[:len(roots)]) == both and order_of(degree, rests[len(roots):]) == both


def check_roots(roots):
    """InvalidRoots if this is no tower."""
    if not isinstance(roots, tuple) or not roots:
        raise InvalidRoots(None)
    for index, root in enumerate(roots):
        if index == MOST_ROOTS or not isinstance(root, Root):
            raise InvalidRoots(index)


def degree_of_any(roots):
    """The degree of the tower of these roots, also of none."""
    degree, rests = rests_of(roots)
    return order_of(degree, rests)


def _powers_for(root, roots):
    """The least powers of the roots whose product is a fraction times the root, as a tuple, or None."""
    degree, rests = rests_of((root, *roots))
    first, *others = relations_of(degree, rests)
    if first[0] > 1:
        return None
    powers = [-power for power in first]
    # By the relations without the root: what they can make less is made as small as can be, from the first one on.
    for index, row in enumerate(others, start=1):
        times = powers[index] // row[index]
        powers = [power - times * other for power, other in zip(powers, row)]
    return tuple(powers[1:])


def _sets_of_indexes(many):
    """All sets of indexes of so many things, as ascending tuples, ascending."""
    return sorted([tuple([at for at in range(many) if mask >> at & 1 == 1]) for mask in range(1 << many)])
