"""Claims for the checker, each with a certificate."""

from purepowers.numbers import base_of, four_root, number_root_by, number_text
from purepowers.splitting import is_always_whole, splits
from purepowers.towers import degree_of, told_by


def certify_equation(number, n):
    """The claim that the equation splits, or that it is whole, and its certificate."""
    if not splits(number, n):
        return ("whole", number_text(number), n), base_of(number)
    claim = ("splits", number_text(number), n)
    root, exponent = number_root_by(number, n)
    if exponent > 1:
        # It may be no prime: those of an n of thirty figures could not be found.
        return claim, ("power", exponent, root)
    return claim, ("four", four_root(number))


def certify_always(number):
    """The claim that the number is always whole, and its certificate, or None."""
    if not is_always_whole(number):
        return None
    return ("always", number_text(number)), base_of(number)


def certify_degree(roots):
    """The claim what degree the tower has, and its certificate."""
    degree = degree_of(roots)
    return ("degree", _texts_of(roots), degree), ()


def certify_in(root, roots):
    """The claim that the root lies in the field, or that it does not, and its certificate."""
    told = told_by(root, roots)
    if told is None:
        return ("not in", str(root), _texts_of(roots)), ()
    return ("in", str(root), _texts_of(roots)), told


def _texts_of(roots):
    """The tuple of the texts of the roots."""
    return tuple([str(root) for root in roots])
