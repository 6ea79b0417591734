"""The checker: whether a certificate shows a claim. It takes nothing on trust, whatever it is given."""

from purepowers.checks import has_form, is_between, is_number
from purepowers.errors import InvalidText
from purepowers.limits import MOST_DEGREE, MOST_ROOTS, MOST_SIZE
from purepowers.numbers import base_of, four_root, power_root, read_number
from purepowers.products import least_form, number_by
from purepowers.roots import root_or_none
from purepowers.splitting import is_always_whole, splits
from purepowers.towers import degree_of, is_in

CLAIMS = (("splits", 3), ("whole", 3), ("always", 2), ("degree", 3), ("in", 3), ("not in", 3))
REASONS = (("power", 3), ("four", 2))


def accepts(claim, certificate):
    """Whether this is a claim for the checker, and the certificate one for it."""
    if not has_form(claim, CLAIMS):
        return False
    if claim[0] in ("splits", "whole"):
        return _shows_equation(claim, certificate)
    if claim[0] == "always":
        number = _number_of(claim[1])
        return number is not None and is_always_whole(number) and _is_base_of(number, certificate)
    if claim[0] == "degree":
        return _shows_degree(claim, certificate)
    return _shows_place(claim, certificate)


def _shows_equation(claim, certificate):
    """Whether the certificate shows that the equation of the claim splits, or is whole."""
    word, text, n = claim
    number = _number_of(text)
    if number is None or not is_between(n, 1, MOST_SIZE):
        return False
    if word == "whole":
        return not splits(number, n) and _is_base_of(number, certificate)
    if not has_form(certificate, REASONS) or not is_number(certificate[-1]):
        return False
    top, bottom = certificate[-1]
    if certificate[0] == "four":
        return n % 4 == 0 and four_root(number) == (abs(top), bottom)
    return _is_power(number, (top, bottom), certificate[1], n)


def _is_power(number, root, exponent, n):
    """Whether this is a divisor of n above 1, and the number the power of the root with it."""
    if not is_between(exponent, 2, n) or n % exponent != 0:
        return False
    # With an even exponent the opposite of the root has the same power.
    opposite = root if exponent % 2 == 1 else (-root[0], root[1])
    return power_root(number, exponent) in (root, opposite)


def _is_base_of(number, certificate):
    """Whether the certificate is the pair of the base and the exponent of the number."""
    if not isinstance(certificate, tuple) or len(certificate) != 2:
        return False
    base, exponent = certificate
    return is_number(base) and is_between(exponent, 0, MOST_SIZE) and (base, exponent) == base_of(number)


def _shows_degree(claim, certificate):
    """Whether the certificate shows the degree of the tower of the claim."""
    roots = _roots_of(claim[1])
    if roots is None or not _is_empty(certificate):
        return False
    degree = degree_of(roots)
    return is_between(claim[2], degree, degree)


def _shows_place(claim, certificate):
    """Whether the certificate shows that the root of the claim lies in the field, or that it does not."""
    root = root_or_none(claim[1])
    roots = _roots_of(claim[2])
    if root is None or roots is None:
        return False
    if claim[0] == "not in":
        return _is_empty(certificate) and not is_in(root, roots)
    if not isinstance(certificate, tuple) or len(certificate) != 2:
        return False
    number, exponents = certificate
    if not is_number(number) or not _are_exponents(exponents, len(roots)):
        return False
    opposites = [-exponent for exponent in exponents]
    degree, bases, left = least_form((root, *roots), (1, *opposites))
    return degree == 1 and number_by(bases, left) == number


def _are_exponents(values, many):
    """Whether this is a tuple of so many integers from 0 to the greatest degree."""
    if not isinstance(values, tuple) or len(values) != many:
        return False
    return all([is_between(value, 0, MOST_DEGREE) for value in values])


def _is_empty(value):
    """Whether this is the tuple without anything in it."""
    return isinstance(value, tuple) and not value


def _number_of(text):
    """The number with this text, or None."""
    try:
        return read_number(text)
    except InvalidText:
        return None


def _roots_of(texts):
    """The tuple of one to five roots with these texts, or None."""
    if not isinstance(texts, tuple) or not 1 <= len(texts) <= MOST_ROOTS:
        return None
    roots = tuple([root_or_none(text) for text in texts])
    return None if None in roots else roots
