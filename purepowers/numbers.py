"""Numbers: their texts, their bases and exponents, their roots and multiples."""

from math import gcd

from purepowers.checks import check_degree, check_number, is_number
from purepowers.errors import InvalidText, TooGreat
from purepowers.limits import MOST_SIZE


def number_text(number):
    """The text of the number."""
    check_number(number)
    top, bottom = number
    if bottom == 1:
        return str(top)
    return f"{top}/{bottom}"


def read_number(text):
    """The number with this text."""
    if not isinstance(text, str):
        raise InvalidText(text)
    number = _loosely_read(text)
    # Each number has one text alone: another one tells it with needless zeros or with the bottom 1.
    if not is_number(number) or number_text(number) != text:
        raise InvalidText(text)
    return number


def _loosely_read(text):
    """The pair of integers that the text tells, needless zeros and a bottom 1 allowed, or None."""
    top, slash, bottom = text.partition("/")
    digits = top.removeprefix("-")
    if not slash:
        bottom = "1"
    if not _are_digits(digits) or not _are_digits(bottom):
        return None
    return int(top), int(bottom)


def _are_digits(text):
    """Whether the text is made of decimal digits, no more of them than the greatest number has."""
    # Python itself refuses to read integers of some thousand digits, and isdigit takes more than 0 to 9.
    if not 1 <= len(text) <= len(str(MOST_SIZE)):
        return False
    return all([char in "0123456789" for char in text])


def base_of(number):
    """The pair of the base and the exponent of the number."""
    check_number(number)
    top, bottom = abs(number[0]), number[1]
    if top == bottom:
        return (1, 1), 0
    # A power with the exponent k, other than 1, has a top or a bottom of more than k binary digits.
    for k in range(max(top, bottom).bit_length() - 1, 1, -1):
        root = _fraction_root(top, bottom, k)
        if root is not None:
            return root, k
    return (top, bottom), 1


def power_root(number, n):
    """The number whose power with the exponent n is this one, the positive one of two, or None."""
    check_number(number)
    check_degree(n)
    if number[0] < 0 and n % 2 == 0:
        return None
    (top, bottom), exponent = base_of(number)
    # The exponent 0 of 1 and -1 is divided by every n, as it has to be.
    if exponent % n != 0:
        return None
    sign = -1 if number[0] < 0 else 1
    return sign * power_of(top, exponent // n), power_of(bottom, exponent // n)


def four_root(number):
    """The positive b such that the number is -4 * b ** 4, or None."""
    check_number(number)
    top, bottom = number
    if top > 0:
        return None
    divisor = gcd(top, 4)
    return _fraction_root(-top // divisor, bottom * (4 // divisor), 4)


def multiplied(number, times):
    """The number times an integer."""
    check_number(number)
    check_degree(times)
    top, bottom = number
    divisor = gcd(bottom, times)
    new_top = top * (times // divisor)
    if abs(new_top) > MOST_SIZE:
        raise TooGreat(new_top)
    return new_top, bottom // divisor


def power_of(value, exponent):
    """The power of an integer, for an exponent from 0 on."""
    result = 1
    while exponent > 0:
        if exponent % 2 == 1:
            result = result * value
        value = value * value
        exponent = exponent // 2
    return result


def floor_root(value, n):
    """The n-th root of an integer from 0 on, rounded down."""
    low = 0
    beyond = 1 << (value.bit_length() // n + 1)
    while beyond - low > 1:
        middle = (low + beyond) // 2
        if power_of(middle, n) <= value:
            low = middle
        else:
            beyond = middle
    return low


def exact_root(value, n):
    """The n-th root of an integer from 0 on, or None if it is no integer."""
    root = floor_root(value, n)
    return root if power_of(root, n) == value else None


def _fraction_root(top, bottom, n):
    """The n-th root of top / bottom, both above 0 and without a common divisor, or None."""
    top_root = exact_root(top, n)
    if top_root is None:
        return None
    bottom_root = exact_root(bottom, n)
    if bottom_root is None:
        return None
    return top_root, bottom_root
