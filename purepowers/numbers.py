"""Numbers: their texts, their bases and exponents, their roots and multiples."""

from math import gcd, isqrt

from purepowers.checks import are_digits, check_degree, check_number, is_number
from purepowers.errors import InvalidText, TooGreat
from purepowers.limits import MOST_SIZE

# The product of all primes up to 251.
SMALL_PRIMES = (
    2 * 3 * 5 * 7 * 11 * 13 * 17 * 19 * 23 * 29 * 31 * 37 * 41 * 43 * 47 * 53 * 59 * 61 * 67 * 71 * 73 * 79 * 83 * 89
    * 97 * 101 * 103 * 107 * 109 * 113 * 127 * 131 * 137 * 139 * 149 * 151 * 157 * 163 * 167 * 173 * 179 * 181 * 191
    * 193 * 197 * 199 * 211 * 223 * 227 * 229 * 233 * 239 * 241 * 251
)
# The prime exponents that integers below 2 ** 136 can have if no prime up to 251 divides them; to each one a modulus
# of such primes alone, and the rests that powers leave by it. Most other integers leave other rests, so that no root
# has to be sought.
POWER_RESTS = (
    (2, 240, (1, 49, 121, 169)),
    (3, 819, (1, 8, 64, 118, 125, 181, 190, 307, 512, 629, 638, 694, 701, 755, 811, 818)),
    (5, 341, (1, 32, 56, 67, 87, 98, 243, 254, 274, 285, 309, 340)),
    (7, 43, (1, 6, 7, 36, 37, 42)),
    (11, 23, (1, 22)),
    (13, 53, (1, 23, 30, 52)),
)


def number_text(number):
    """The text of the number."""
    check_number(number)
    top, bottom = number
    if bottom == 1:
        return str(top)
    return f"{top}/{bottom}"


def read_number(text):
    """The number with this text."""
    if not isinstance(text, str):
        raise InvalidText(text)
    number = _loosely_read(text)
    # Each number has one text alone: another one tells it with needless zeros or with the bottom 1.
    if not is_number(number) or number_text(number) != text:
        raise InvalidText(text)
    return number


def _loosely_read(text):
    """The pair of integers that the text tells, needless zeros and a bottom 1 allowed, or None."""
    top, slash, bottom = text.partition("/")
    digits = top.removeprefix("-")
    if not slash:
        bottom = "1"
    if not are_digits(digits) or not are_digits(bottom):
        return None
    # Python itself refuses to read integers of some thousand digits.
    if max(len(digits), len(bottom)) > len(str(MOST_SIZE)):
        return None
    return int(top), int(bottom)


def base_of(number):
    """The pair of the base and the exponent of the number."""
    check_number(number)
    return fraction_root_by(abs(number[0]), number[1], 0)


def power_root(number, n):
    """The number whose power with the exponent n is this one, the positive one of two, or None."""
    check_number(number)
    check_degree(n)
    root, exponent = number_root_by(number, n)
    return root if exponent == n else None


def number_root_by(number, n):
    """The pair (root, divisor) with the greatest divisor of n such that the number is the root's power with it."""
    top, bottom = number
    if top > 0:
        return fraction_root_by(top, bottom, n)
    # A number below 0 is no square.
    (root_top, root_bottom), exponent = fraction_root_by(-top, bottom, odd_part(n))
    return (-root_top, root_bottom), exponent


def fraction_root_by(top, bottom, n):
    """The same for top / bottom, both above 0 and without a common divisor.

    Each integer divides 0: so with 0 as n these are the base and the exponent; of 1 the base 1 and the exponent n.
    """
    if top == bottom:
        return (1, 1), n
    top_root, top_exponent = integer_root_by(top, n)
    if top_exponent == 1:
        return (top, bottom), 1
    bottom_root, exponent = integer_root_by(bottom, top_exponent)
    if exponent == 1:
        return (top, bottom), 1
    return (power_of(top_root, top_exponent // exponent), bottom_root), exponent


def integer_root_by(value, n):
    """The same for an integer above 0 and below 2 ** 136."""
    if value == 1:
        return 1, n
    common = gcd(value, SMALL_PRIMES)
    # Mostly some small prime divides the integer just once, so that it is no power.
    if common > 1 and value % (common * common) != 0:
        return value, 1
    powers = []
    rest = value
    while common > 1:
        times, rest = divided_out(rest, common)
        n = gcd(n, times)
        if n == 1:
            return value, 1
        powers.append((common, times))
        common = gcd(rest, common)
    root, exponent = _rough_root_by(rest, n)
    if exponent == 1:
        return value, 1
    for common, times in powers:
        root = root * power_of(common, times // exponent)
    return root, exponent


def divided_out(value, divisor):
    """How often the integer can be divided by this one, once or more, and what is left then."""
    square = divisor * divisor
    if value % square != 0:
        return 1, value // divisor
    times, left = divided_out(value, square)
    if left % divisor != 0:
        return 2 * times, left
    return 2 * times + 1, left // divisor


def _rough_root_by(value, n):
    """As `integer_root_by`, for integers that no small prime divides."""
    if value == 1:
        return 1, n
    exponent = 1
    for prime, modulus, rests in POWER_RESTS:
        # A root is above 2 ** 8.
        if value.bit_length() <= 8 * prime:
            break
        while n % prime == 0 and value % modulus in rests:
            root = exact_root(value, prime)
            if root is None:
                break
            value, n, exponent = root, n // prime, exponent * prime
    return value, exponent


def odd_part(n):
    """The greatest odd divisor of an integer from 1 on."""
    return n // (n & -n)


def four_root(number):
    """The positive b such that the number is -4 * b ** 4, or None."""
    check_number(number)
    return four_root_of_any(number)


def four_root_of_any(number):
    """The same, also for a top and a bottom beyond 10 ** 30."""
    top, bottom = number
    if top > 0:
        return None
    divisor = gcd(top, 4)
    return _fraction_root(-top // divisor, bottom * (4 // divisor), 4)


def multiplied(number, times):
    """The number times an integer."""
    check_number(number)
    check_degree(times)
    top, bottom = any_multiple(number, times)
    if abs(top) > MOST_SIZE:
        raise TooGreat(top)
    return top, bottom


def any_multiple(number, times):
    """The same, also for products beyond 10 ** 30."""
    top, bottom = number
    divisor = gcd(bottom, times)
    return top * (times // divisor), bottom // divisor


def power_of(value, exponent):
    """The power of an integer, for an exponent from 0 on."""
    result = 1
    while exponent > 0:
        if exponent % 2 == 1:
            result = result * value
        value = value * value
        exponent = exponent // 2
    return result


def floor_root(value, n):
    """The n-th root of an integer from 0 on, rounded down."""
    if value == 0:
        return 0
    size = (value.bit_length() + n - 1) // n
    root = 1 << size
    if n > 8 and size > 8:
        # To a great root with a great n the steps are many from afar: the leading half of its digits comes first.
        half = size // 2
        root = (floor_root(value >> (n * half), n) + 1) << half
    # By Newton's steps, from above the root: as long as they fall, they do not fall below it.
    while True:
        lower = ((n - 1) * root + value // power_of(root, n - 1)) // n
        if lower >= root:
            return root
        root = lower


def exact_root(value, n):
    """The n-th root of an integer from 0 on, or None if it is no integer."""
    while n % 2 == 0:
        root = isqrt(value)
        if root * root != value:
            return None
        value, n = root, n // 2
    if n == 1:
        return value
    root = floor_root(value, n)
    return root if power_of(root, n) == value else None


def _fraction_root(top, bottom, n):
    """The n-th root of top / bottom, both above 0 and without a common divisor, or None."""
    top_root = exact_root(top, n)
    if top_root is None:
        return None
    bottom_root = exact_root(bottom, n)
    if bottom_root is None:
        return None
    return top_root, bottom_root
