"""Positive roots of numbers above 0, in their least form."""

from math import gcd

from purepowers.checks import are_digits, check_degree, is_number
from purepowers.errors import InvalidDegree, InvalidNumber, InvalidText, NotARoot, TooGreat
from purepowers.limits import MOST_DEGREE, MOST_SIZE
from purepowers.numbers import floor_root, fraction_root_by, number_text, power_of, read_number
from purepowers.products import least_form, number_by

MOST_POWER = 20
MOST_PLACES = 30


class Root:
    """The positive n-th root of a number above 0."""

    def __init__(self, number, n):
        if not is_number(number) or number[0] < 0:
            raise InvalidNumber(number)
        check_degree(n, 1, MOST_DEGREE)
        root, exponent = fraction_root_by(number[0], number[1], n)
        self._degree = n // exponent
        self._number = root

    @staticmethod
    def read(text):
        """The root with this text."""
        root = root_or_none(text)
        if root is None:
            raise InvalidText(text)
        return root

    @property
    def degree(self):
        """The degree of the least form."""
        return self._degree

    @property
    def number(self):
        """The number of the least form."""
        return self._number

    @property
    def is_fraction(self):
        """Whether the degree is 1."""
        return self._degree == 1

    def times(self, other):
        """The product."""
        check_root(other)
        degree, bases, exponents = least_form((self, other), (1, 1))
        if degree > MOST_DEGREE:
            raise TooGreat(degree)
        return _root_of_any(number_by(bases, exponents), degree)

    def raised(self, many):
        """The power."""
        check_degree(many, -MOST_POWER, MOST_POWER)
        top, bottom = self._number if many > 0 else self._number[::-1]
        common = gcd(self._degree, many)
        power = abs(many) // common
        return _root_of_any((power_of(top, power), power_of(bottom, power)), self._degree // common)

    def is_less(self, other):
        """Whether it is less than the other one."""
        check_root(other)
        common = gcd(self._degree, other.degree)
        # The powers of both with the least exponent by which they are fractions.
        top, bottom = [power_of(value, other.degree // common) for value in self._number]
        other_top, other_bottom = [power_of(value, self._degree // common) for value in other.number]
        return top * other_bottom < other_top * bottom

    def cut(self, places):
        """The greatest fraction with so many decimals that is not above the root, written out."""
        check_degree(places, 0, MOST_PLACES)
        top, bottom = self._number
        power = top * power_of(10, places * self._degree) // bottom
        digits = str(floor_root(power, self._degree))
        if places == 0:
            return digits
        digits = digits.zfill(places + 1)
        point = len(digits) - places
        return f"{digits[:point]}.{digits[point:]}"

    def __eq__(self, other):
        return isinstance(other, Root) and self._degree == other._degree and self._number == other._number

    def __str__(self):
        return f"{self._degree} of {number_text(self._number)}"

    def __repr__(self):
        return f"Root of degree {self._degree}"


def root_or_none(text):
    """The root with this text, or None, whatever the text is."""
    root = _loosely_read(text)
    # Each root has one text alone: another one tells it with needless zeros or in another form than the least.
    if root is None or str(root) != text:
        return None
    return root


def check_root(value):
    """NotARoot if this is no root."""
    if not isinstance(value, Root):
        raise NotARoot(value)


def _root_of_any(number, degree):
    """The root with this least form; TooGreat if the number is no number, but beyond the greatest one."""
    if max(number) > MOST_SIZE:
        raise TooGreat(max(number))
    return Root(number, degree)


def _loosely_read(text):
    """The root that the text tells, needless zeros and other forms than the least allowed, or None."""
    if not isinstance(text, str):
        return None
    degree, _, number_told = text.partition(" of ")
    # A degree has two digits at most; Python itself refuses to read integers of some thousand digits.
    if len(degree) > 2 or not are_digits(degree):
        return None
    try:
        return Root(read_number(number_told), int(degree))
    except (InvalidText, InvalidNumber, InvalidDegree):
        return None
