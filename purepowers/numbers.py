"""Numbers: their texts, their bases and exponents, their roots and multiples."""

from math import gcd, isqrt

from purepowers.checks import are_digits, check_degree, check_number, is_number
from purepowers.errors import InvalidText, TooGreat
from purepowers.limits import MOST_SIZE

# The prime exponents that integers above 1 and below 2 ** 127 can have; to each one a modulus, and the rests that
# powers with this exponent leave by it. Most other integers leave other rests, so that no root has to be sought.
POWER_RESTS = (
    (2, 16, (0, 1, 4, 9)),
    (3, 63, (0, 1, 8, 27, 28, 35, 36, 55, 62)),
    (5, 11, (0, 1, 10)),
    (7, 29, (0, 1, 12, 17, 28)),
    (11, 23, (0, 1, 22)),
    (13, 53, (0, 1, 23, 30, 52)),
    (17, 103, (0, 1, 46, 47, 56, 57, 102)),
    (19, 191, (0, 1, 7, 39, 49, 82, 109, 142, 152, 184, 190)),
    (23, 47, (0, 1, 46)),
    (29, 59, (0, 1, 58)),
    (31, 311, (0, 1, 6, 36, 52, 95, 216, 259, 275, 305, 310)),
    (37, 149, (0, 1, 44, 105, 148)),
    (41, 83, (0, 1, 82)),
    (43, 173, (0, 1, 80, 93, 172)),
    (47, 283, (0, 1, 44, 45, 238, 239, 282)),
    (53, 107, (0, 1, 106)),
    (59, 709, (0, 1, 91, 96, 187, 227, 228, 481, 482, 522, 613, 618, 708)),
    (61, 367, (0, 1, 83, 84, 283, 284, 366)),
    (67, 269, (0, 1, 82, 187, 268)),
    (71, 569, (0, 1, 76, 86, 277, 292, 483, 493, 568)),
    (73, 293, (0, 1, 138, 155, 292)),
    (79, 317, (0, 1, 114, 203, 316)),
    (83, 167, (0, 1, 166)),
    (89, 179, (0, 1, 178)),
    (97, 389, (0, 1, 115, 274, 388)),
    (101, 607, (0, 1, 210, 211, 396, 397, 606)),
    (103, 619, (0, 1, 252, 253, 366, 367, 618)),
    (107, 643, (0, 1, 177, 178, 465, 466, 642)),
    (109, 1091, (0, 1, 79, 93, 290, 305, 786, 801, 998, 1012, 1090)),
    (113, 227, (0, 1, 226)),
)


def number_text(number):
    """The text of the number."""
    check_number(number)
    top, bottom = number
    if bottom == 1:
        return str(top)
    return f"{top}/{bottom}"


def read_number(text):
    """The number with this text."""
    if not isinstance(text, str):
        raise InvalidText(text)
    number = _loosely_read(text)
    # Each number has one text alone: another one tells it with needless zeros or with the bottom 1.
    if not is_number(number) or number_text(number) != text:
        raise InvalidText(text)
    return number


def _loosely_read(text):
    """The pair of integers that the text tells, needless zeros and a bottom 1 allowed, or None."""
    top, slash, bottom = text.partition("/")
    digits = top.removeprefix("-")
    if not slash:
        bottom = "1"
    if not are_digits(digits) or not are_digits(bottom):
        return None
    # Python itself refuses to read integers of some thousand digits.
    if max(len(digits), len(bottom)) > len(str(MOST_SIZE)):
        return None
    return int(top), int(bottom)


def base_of(number):
    """The pair of the base and the exponent of the number."""
    check_number(number)
    return base_of_sizes(abs(number[0]), number[1])


def base_of_sizes(top, bottom):
    """The base and the exponent of top / bottom, both above 0, below 2 ** 127 and without a common divisor."""
    if top == bottom:
        return (1, 1), 0
    exponent = 1
    digits = max(top, bottom).bit_length()
    for prime, modulus, rests in POWER_RESTS:
        # A power with this exponent, other than 1, has a top or a bottom of more binary digits than that.
        if prime >= digits:
            break
        while top % modulus in rests and bottom % modulus in rests:
            root = _fraction_root(top, bottom, prime)
            if root is None:
                break
            top, bottom = root
            exponent = exponent * prime
    return (top, bottom), exponent


def power_root(number, n):
    """The number whose power with the exponent n is this one, the positive one of two, or None."""
    check_number(number)
    check_degree(n)
    top, bottom = number
    if top < 0 and n % 2 == 0:
        return None
    if abs(top) == bottom:
        return number
    # As in base_of_sizes: this keeps n small where roots are sought.
    if n >= max(abs(top), bottom).bit_length():
        return None
    root = _fraction_root(abs(top), bottom, n)
    if root is None or top > 0:
        return root
    return -root[0], root[1]


def four_root(number):
    """The positive b such that the number is -4 * b ** 4, or None."""
    check_number(number)
    return four_root_of_any(number)


def four_root_of_any(number):
    """The same, also for a top and a bottom beyond 10 ** 30."""
    top, bottom = number
    if top > 0:
        return None
    divisor = gcd(top, 4)
    return _fraction_root(-top // divisor, bottom * (4 // divisor), 4)


def multiplied(number, times):
    """The number times an integer."""
    check_number(number)
    check_degree(times)
    top, bottom = any_multiple(number, times)
    if abs(top) > MOST_SIZE:
        raise TooGreat(top)
    return top, bottom


def any_multiple(number, times):
    """The same, also for products beyond 10 ** 30."""
    top, bottom = number
    divisor = gcd(bottom, times)
    return top * (times // divisor), bottom // divisor


def power_of(value, exponent):
    """The power of an integer, for an exponent from 0 on."""
    result = 1
    while exponent > 0:
        if exponent % 2 == 1:
            result = result * value
        value = value * value
        exponent = exponent // 2
    return result


def floor_root(value, n):
    """The n-th root of an integer from 0 on, rounded down."""
    if value == 0:
        return 0
    # By Newton's steps, from above the root: as long as they fall, they do not fall below it.
    root = 1 << ((value.bit_length() + n - 1) // n)
    while True:
        lower = ((n - 1) * root + value // power_of(root, n - 1)) // n
        if lower >= root:
            return root
        root = lower


def exact_root(value, n):
    """The n-th root of an integer from 0 on, or None if it is no integer."""
    while n % 2 == 0:
        root = isqrt(value)
        if root * root != value:
            return None
        value, n = root, n // 2
    root = floor_root(value, n)
    return root if power_of(root, n) == value else None


def _fraction_root(top, bottom, n):
    """The n-th root of top / bottom, both above 0 and without a common divisor, or None."""
    top_root = exact_root(top, n)
    if top_root is None:
        return None
    bottom_root = exact_root(bottom, n)
    if bottom_root is None:
        return None
    return top_root, bottom_root
