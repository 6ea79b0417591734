"""What integers and numbers are, and the errors for arguments that are none."""

from math import gcd

from purepowers.errors import InvalidDegree, InvalidIndex, InvalidNumber
from purepowers.limits import MOST_SIZE


def is_between(value, least, most):
    """Whether the value is an integer from `least` to `most`."""
    # To Python, True and False are of the class int, too.
    if not isinstance(value, int) or isinstance(value, bool):
        return False
    return least <= value <= most


def is_sign(value):
    """Whether the value is 1 or -1."""
    return is_between(value, -1, 1) and value != 0


def is_number(value):
    """Whether the value is a number: a pair (top, bottom) in lowest terms."""
    if not isinstance(value, tuple) or len(value) != 2:
        return False
    top, bottom = value
    if not is_between(top, -MOST_SIZE, MOST_SIZE) or not is_between(bottom, 1, MOST_SIZE):
        return False
    return top != 0 and gcd(top, bottom) == 1


def has_form(value, forms):
    """Whether the value is a tuple of a word and more, the word and the number of all in it as one of the forms has."""
    if not isinstance(value, tuple) or not value or not isinstance(value[0], str):
        return False
    return (value[0], len(value)) in forms


def are_digits(text):
    """Whether the string is made of decimal digits, one or more."""
    # By itself, isdecimal takes more than 0 to 9.
    return text.isascii() and text.isdecimal()


def check_number(number):
    """InvalidNumber if this is no number."""
    if not is_number(number):
        raise InvalidNumber(number)


def check_degree(n, least=1, most=MOST_SIZE):
    """InvalidDegree if this is no integer from `least` to `most`."""
    if not is_between(n, least, most):
        raise InvalidDegree(n)


def check_index(index, many):
    """InvalidIndex if this is no index of so many things."""
    if not is_between(index, 0, many - 1):
        raise InvalidIndex(index)
