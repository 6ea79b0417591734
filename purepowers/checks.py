"""What integers and numbers are, and the errors for arguments that are none."""

from math import gcd

from purepowers.errors import InvalidDegree, InvalidNumber
from purepowers.limits import MOST_SIZE


def is_between(value, least, most):
    """Whether the value is an integer from `least` to `most`."""
    # To Python, True and False are of the class int, too.
    if not isinstance(value, int) or isinstance(value, bool):
        return False
    return least <= value <= most


def is_sign(value):
    """Whether the value is 1 or -1."""
    return is_between(value, -1, 1) and value != 0


def is_number(value):
    """Whether the value is a number: a pair (top, bottom) in lowest terms."""
    if not isinstance(value, tuple) or len(value) != 2:
        return False
    top, bottom = value
    if not is_between(top, -MOST_SIZE, MOST_SIZE) or not is_between(bottom, 1, MOST_SIZE):
        return False
    return top != 0 and gcd(top, bottom) == 1


def check_number(number):
    """InvalidNumber if this is no number."""
    if not is_number(number):
        raise InvalidNumber(number)


def check_degree(n, least=1, most=MOST_SIZE):
    """InvalidDegree if this is no integer from `least` to `most`."""
    if not is_between(n, least, most):
        raise InvalidDegree(n)
