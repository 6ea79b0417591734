import cmath
import unittest
from fractions import Fraction
from itertools import combinations
from math import gcd, pi

from purepowers import splitting
from purepowers.errors import InvalidDegree, InvalidNumber
from purepowers.splitting import count_parts, factor, is_always_whole, parts, splits, why
from some_numbers import (
    GREAT, PRIMES, SIZE, as_power, exponent_by_primes, is_four_by_primes, is_small, powers_of_all_sizes, primes_in, small_numbers,
    some_powers, tried_base, tried_reason, whole_root,
)
from wrong_values import assert_each_argument, no_degrees, no_numbers, raised_by, told_as_given

FOURS = [(Fraction(-4 * top ** 4, bottom ** 4).numerator, Fraction(-4 * top ** 4, bottom ** 4).denominator)
         for top in range(1, 13) for bottom in range(1, 13) if gcd(top, bottom) == 1]


def neighbours(number):
    """Numbers beside this one."""
    top, bottom = number
    near = [(top + 1, bottom), (top - 1, bottom), (top, bottom + 1), (-top, bottom), (2 * top, bottom), (top, 3 * bottom)]
    return [pair for pair in near if pair[0] != 0 and gcd(*pair) == 1]


def shown(terms):
    """The polynomial of the terms, as a dict from exponents to fractions."""
    return {exponent: Fraction(*number) for exponent, number in terms}


def rest_of_power(many, terms):
    """The rest of x ** many by a sum of powers that begins with one, as a dict, by squares."""
    rest = {0: Fraction(1)}
    for digit in bin(many)[2:]:
        rest = rest_by(product_of(rest, rest), terms)
        if digit == "1":
            rest = rest_by({exponent + 1: value for exponent, value in rest.items()}, terms)
    return rest


def product_of(one, other):
    found = {}
    for exponent, value in one.items():
        for second, factored in other.items():
            found[exponent + second] = found.get(exponent + second, 0) + value * factored
    return found


def rest_by(dividend, divisor):
    """The rest of the division of two sums of powers, the divisor beginning with one times a power."""
    rest = {exponent: value for exponent, value in dividend.items() if value}
    degree = max(divisor)
    while rest and max(rest) >= degree:
        shift = max(rest) - degree
        times = rest[max(rest)]
        for exponent, value in divisor.items():
            rest[exponent + shift] = rest.get(exponent + shift, 0) - times * value
        rest = {exponent: value for exponent, value in rest.items() if value}
    return rest


class Signatures(unittest.TestCase):
    def test_places(self):
        for name in ("splits", "why", "factor", "is_always_whole", "parts", "count_parts"):
            self.assertEqual(getattr(splitting, name).__module__, "purepowers.splitting")

    def test_by_name(self):
        self.assertIs(splits(n=6, number=(8, 1)), True)
        self.assertIs(splits((8, 1), n=1), False)
        self.assertEqual(why(n=6, number=(8, 1)), ("power", 3, (2, 1)))
        self.assertEqual(factor(n=6, number=(8, 1)), ((2, (1, 1)), (0, (-2, 1))))
        self.assertIs(is_always_whole(number=(2, 1)), True)
        self.assertEqual(parts(n=6, number=(8, 1)), ((2, 1), (4, 1)))
        self.assertEqual(count_parts(n=6, number=(64, 1)), 4)

    def test_examples_of_the_document(self):
        self.assertEqual(
            [splits((8, 1), 6), splits((8, 1), 10 ** 30), splits((-4, 1), 4), splits((-9, 1), 4), why((8, 1), 6),
             why((-4, 1), 4), why((64, 1), 9), why((2, 1), 7)],
            [True, False, True, False, ("power", 3, (2, 1)), ("four", (1, 1)), ("power", 3, (4, 1)), None],
        )
        self.assertEqual(
            [factor((8, 1), 6), factor((-4, 1), 4), factor((-1, 4), 8), is_always_whole((2, 1)), is_always_whole((-9, 1)),
             is_always_whole((-4, 1)), is_always_whole((1, 1))],
            [((2, (1, 1)), (0, (-2, 1))), ((2, (1, 1)), (1, (2, 1)), (0, (2, 1))),
             ((4, (1, 1)), (2, (1, 1)), (0, (1, 2))), True, True, False, False],
        )
        self.assertEqual(
            [parts((8, 1), 6), parts((-4, 1), 4), parts((1, 1), 6), parts((729, 1), 12), parts((-27, 1), 6),
             parts((2, 3), 1000), count_parts((64, 1), 6)],
            [((2, 1), (4, 1)), ((2, 2),), ((1, 2), (2, 2)), ((2, 4), (4, 1)), ((2, 3),), ((1000, 1),), 4],
        )

    def test_examples_of_the_overview(self):
        self.assertEqual([splits((8, 1), 6), splits((-4, 1), 4), splits((-9, 1), 4)], [True, True, False])
        self.assertEqual(count_parts((729, 1), 12), 5)


class WrongArguments(unittest.TestCase):
    def test_each_argument(self):
        number = ((8, 1), InvalidNumber, "given", told_as_given(no_numbers()))
        for function, most in ((splits, SIZE), (why, 10 ** 6), (factor, 10 ** 6), (parts, 1000), (count_parts, 1000)):
            degree = (6, InvalidDegree, "given", told_as_given(no_degrees(1, most)))
            assert_each_argument(self, function, number, degree)
        assert_each_argument(self, is_always_whole, number)

    def test_bounds_of_the_degree(self):
        for function, most in ((splits, SIZE), (why, 10 ** 6), (factor, 10 ** 6), (parts, 1000), (count_parts, 1000)):
            for number in ((8, 1), (2, 1), (1, 1), (-4, 1), (SIZE, 1)):
                function(number, 1)
                function(number, most)
                for wrong in (0, most + 1):
                    self.assertEqual(raised_by(self, InvalidDegree, function, number, wrong).given, wrong)

    def test_lists_are_left_as_they_are(self):
        value = [8, 1]
        self.assertIs(raised_by(self, InvalidNumber, splits, value, 6).given, value)
        self.assertEqual(value, [8, 1])


class Splits(unittest.TestCase):
    def test_small_numbers(self):
        for number in small_numbers(32) + FOURS:
            for n in range(1, 41):
                self.assertIs(splits(number, n), tried_reason(number, n) is not None, (number, n))

    def test_neighbours_of_fours_and_powers(self):
        powers = [as_power(base, n) for base in ((2, 1), (3, 2), (1, 5)) for n in range(2, 7)]
        for number in [other for near in FOURS + powers for other in neighbours(near)]:
            for n in (1, 2, 3, 4, 5, 6, 8, 9, 12, 20, 35):
                self.assertIs(splits(number, n), tried_reason(number, n) is not None, (number, n))

    def test_all_exponents(self):
        for base, exponent in some_powers():
            top, bottom = as_power(base, exponent)
            is_four = is_four_by_primes((-top, bottom))
            for n in (*range(1, 14), exponent, 2 * exponent, exponent + 1, 97, 98, 99, 100, 1000, 10 ** 18 + 9, SIZE - 1, SIZE):
                common = gcd(n, exponent)
                self.assertIs(splits((top, bottom), n), common > 1)
                while common % 2 == 0:
                    common //= 2
                self.assertIs(splits((-top, bottom), n), common > 1 or (n % 4 == 0 and is_four))

    def test_powers_of_all_sizes_and_their_neighbours(self):
        for base, exponent in powers_of_all_sizes():
            for value in (base ** exponent, base ** exponent - 1, base ** exponent + 1, 2 * base ** exponent):
                if value == 1 or value > SIZE:
                    continue
                exponent_told = tried_base(value, 1)[1]
                is_four = value % 4 == 0 and whole_root(value // 4, 4) ** 4 == value // 4
                for n in (2, 3, 4, 5, 7, 11, 12, 60, 97, exponent, SIZE):
                    common = gcd(n, exponent_told)
                    self.assertIs(splits((value, 1), n), common > 1, (value, n))
                    self.assertIs(splits((1, value), n), common > 1, (value, n))
                    below = gcd(n // (n & -n), exponent_told) > 1
                    self.assertIs(splits((-value, 1), n), below or (n % 4 == 0 and is_four), (value, n))
                    if n <= 10 ** 6 and common > 1:
                        prime = primes_in(common)[0]
                        self.assertEqual(why((value, 1), n), ("power", prime, (whole_root(value, prime), 1)))
                        self.assertEqual(why((1, value), n), ("power", prime, (1, whole_root(value, prime))))

    def test_fours_of_all_sizes(self):
        for root in (1, 2, 3, 12, 251, 257, 263, 251 * 257, 257 ** 2, 65537, 10 ** 6 + 3, 10 ** 7, 22360678, 22360679):
            for number in ((-4 * root ** 4, 1), (-4 * root ** 4, 31622775 ** 4), (-1, 4 * root ** 4)):
                if gcd(*number) == 1:
                    exponent = tried_base(-number[0], number[1])[1]
                    for n in (1, 2, 3, 4, 6, 8, 12, 20, 1000, SIZE):
                        told = n % 4 == 0 or gcd(n // (n & -n), exponent) > 1
                        self.assertIs(splits(number, n), told, (number, n))
                    for other in ((number[0] - 1, number[1]), (number[0] + 1, number[1]), (2 * number[0], number[1]), (number[0], number[1] + 1)):
                        if other[0] and gcd(*other) == 1 and is_small(other) and tried_base(abs(other[0]), other[1])[1] == 1:
                            self.assertIs(splits(other, 4), False, other)

    def test_one(self):
        for n in (1, 2, 3, 4, 5, 6, 7, 8, 9, 16, 97, 2 ** 40, 2 ** 99, 3 * 2 ** 97, 3 ** 62, SIZE - 1, SIZE):
            self.assertIs(splits((1, 1), n), n > 1)
            self.assertIs(splits((-1, 1), n), n & (n - 1) != 0)

    def test_no_equation_with_one_splits(self):
        for number in small_numbers(12) + FOURS + list(GREAT):
            self.assertIs(splits(number, 1), False)

    def test_degrees_of_thirty_figures(self):
        told = {
            ((2 ** 99, 1), 3 ** 62): True, ((2 ** 99, 1), 11 ** 28): True, ((2 ** 99, 1), SIZE): False,
            ((-(2 ** 99), 1), 3 ** 62): True, ((-(2 ** 99), 1), SIZE): False, ((2 ** 98, 1), SIZE): True,
            ((-(2 ** 98), 1), SIZE): True, ((-(2 ** 98), 1), SIZE - 2): False, ((-(2 ** 98), 1), 7 ** 35): True,
            ((-(3 ** 62), 1), SIZE): False, ((-(3 ** 62), 1), 31 ** 20): True, ((SIZE, 1), SIZE): True,
            ((-SIZE, 1), SIZE): True, ((-SIZE, 1), 2 ** 99): False, ((SIZE, 1), 2 ** 99): True, ((SIZE, 1), 7 ** 35): False,
            ((4, 1), SIZE): True, ((4, 1), SIZE - 1): False, ((-4, 1), SIZE): True, ((-4, 1), SIZE - 1): False,
            ((-4, 1), SIZE - 2): False, ((-4, 1), SIZE - 4): True, ((-9, 1), SIZE): False, ((2, 3), SIZE): False,
            ((8, 27), SIZE - 1): True, ((8, 27), SIZE): False, ((-8, 27), SIZE - 1): True, ((-8, 27), SIZE): False,
            ((-64, 1), SIZE): True, ((-64, 1), SIZE - 1): True, ((-64, 1), SIZE - 2): False,
        }
        for (number, n), answer in told.items():
            with self.subTest(number, n=n):
                self.assertIs(splits(number, n), answer)

    def test_it_depends_on_the_rest_by_the_exponent(self):
        for number in ((64, 1), (-64, 1), (-4, 81), (32, 243), (-(2 ** 30), 1), (3 ** 14, 5 ** 14), (2 ** 77, 1)):
            period = 4 * exponent_by_primes(number)
            for n in range(SIZE - 60, SIZE + 1):
                self.assertIs(splits(number, n), splits(number, n % period + period))


class Reasons(unittest.TestCase):
    def test_small_numbers(self):
        for number in small_numbers(24) + FOURS:
            for n in (*range(1, 31), 36, 60, 64, 77, 97, 100, 210, 997, 1000):
                self.assertEqual(why(number, n), tried_reason(number, n), (number, n))

    def test_all_exponents(self):
        for base, exponent in some_powers():
            number = as_power(base, exponent)
            for n in (6, 15, 35, 99, 720, 1001, exponent, 7 * exponent, 510510, 999983, 10 ** 6):
                primes = [prime for prime in PRIMES if n % prime == 0 and exponent % prime == 0]
                told = ("power", primes[0], as_power(base, exponent // primes[0])) if primes else None
                self.assertEqual(why(number, n), told)

    def test_one(self):
        told = {2: 2, 3: 3, 9: 3, 15: 3, 49: 7, 77: 7, 96: 2, 997: 997, 999983: 999983, 999999: 3, 10 ** 6: 2, 994009: 997}
        for n, prime in told.items():
            self.assertEqual(why((1, 1), n), ("power", prime, (1, 1)))
        told = {3: 3, 6: 3, 15: 3, 20: 5, 28: 7, 96: 3, 997: 997, 2 * 499979: 499979, 999983: 999983, 10 ** 6: 5, 994009: 997}
        for n, prime in told.items():
            self.assertEqual(why((-1, 1), n), ("power", prime, (-1, 1)))
        for n in (1, 2, 4, 8, 1024, 2 ** 19):
            self.assertIsNone(why((-1, 1), n))
        self.assertIsNone(why((1, 1), 1))

    def test_powers_come_ahead_of_fours(self):
        self.assertEqual(why((-64, 1), 4), ("four", (2, 1)))
        self.assertEqual(why((-64, 1), 12), ("power", 3, (-4, 1)))
        self.assertEqual(why((-64, 1), 6), ("power", 3, (-4, 1)))
        self.assertEqual(why((-64, 1), 20), ("four", (2, 1)))
        self.assertEqual(why((-4 ** 15, 1), 20), ("power", 5, (-64, 1)))
        self.assertEqual(why((-4 ** 15, 1), 60), ("power", 3, (-1024, 1)))

    def test_up_to_the_greatest_degree(self):
        self.assertEqual(why((SIZE, 1), 10 ** 6), ("power", 2, (10 ** 15, 1)))
        self.assertEqual(why((-SIZE, 1), 10 ** 6), ("power", 5, (-10 ** 6, 1)))
        self.assertEqual(why((8, 1), 999999), ("power", 3, (2, 1)))
        self.assertIsNone(why((8, 1), 10 ** 6))
        self.assertEqual(why((-4, 1), 10 ** 6), ("four", (1, 1)))
        self.assertIsNone(why((-4, 1), 999998))

    def test_kinds_of_what_is_returned(self):
        reason = why((8, 1), 6)
        self.assertEqual([one.__class__ for one in (reason, *reason, *reason[2])], [tuple, str, int, tuple, int, int])
        reason = why((-4, 81), 4)
        self.assertEqual([one.__class__ for one in (reason, *reason, *reason[1])], [tuple, str, tuple, int, int])


class Factors(unittest.TestCase):
    def check_factor(self, number, n):
        """The factor is as told, and divides the equation."""
        terms, reason = factor(number, n), why(number, n)
        if reason is None:
            self.assertIsNone(terms)
            return
        root = Fraction(*reason[-1])
        if reason[0] == "power":
            told = {n // reason[1]: Fraction(1), 0: -root}
        else:
            told = {n // 2: Fraction(1), n // 4: 2 * root, 0: 2 * root ** 2}
        self.assertEqual(shown(terms), told)
        self.assertEqual([term[0] for term in terms], sorted(told, reverse=True))
        self.assertEqual([term[1] for term in terms], [
            (told[exponent].numerator, told[exponent].denominator) for exponent in sorted(told, reverse=True)
        ])
        # Divided in powers of x ** step, of which both are made.
        step = gcd(n, *told)
        divisor = {exponent // step: value for exponent, value in told.items()}
        rest = rest_of_power(n // step, divisor)
        self.assertEqual(rest, {0: Fraction(*number)}, (number, n))

    def test_small_numbers(self):
        for number in small_numbers(16) + FOURS:
            for n in (1, 2, 3, 4, 5, 6, 8, 9, 12, 16, 20, 24, 30, 35, 64, 100):
                self.check_factor(number, n)

    def test_division_in_full(self):
        for number in ((8, 1), (-4, 1), (-1, 4), (64, 729), (-64, 1), (1, 1), (-1, 1), (-4, 81), (16, 25), (-32, 243)):
            for n in range(1, 33):
                terms = factor(number, n)
                if terms is not None:
                    equation = {n: Fraction(1), 0: -Fraction(*number)}
                    self.assertEqual(rest_by(equation, shown(terms)), {}, (number, n))
                    self.assertTrue(1 <= terms[0][0] < n)

    def test_great_degrees(self):
        for number in ((8, 1), (-8, 27), (1, 1), (-1, 1), (-4, 1), (-64, 1), (SIZE, 1), (-SIZE, 1), (2 ** 97, 1), (-1, 4), (2, 1)):
            for n in (997, 1000, 510510, 720720, 97 * 10007, 999983, 999996, 999999, 10 ** 6):
                self.check_factor(number, n)

    def test_greatest_numbers(self):
        self.assertEqual(factor((SIZE, 1), 30), ((15, (1, 1)), (0, (-10 ** 15, 1))))
        self.assertEqual(factor((-1, SIZE), 3), ((1, (1, 1)), (0, (1, 10 ** 10))))
        self.assertEqual(factor((-4 * 22360679 ** 4, 1), 4), ((2, (1, 1)), (1, (44721358, 1)), (0, (2 * 22360679 ** 2, 1))))
        self.assertEqual(
            factor((-(31622775 ** 4), 4 * 22360679 ** 4), 8),
            ((4, (1, 1)), (2, (31622775, 22360679)), (0, (31622775 ** 2, 2 * 22360679 ** 2))),
        )

    def test_none(self):
        for number, n in (((2, 1), 7), ((8, 1), 1), ((8, 1), 10 ** 6), ((-9, 1), 4), ((-1, 1), 4), ((-4, 1), 2), ((1, 1), 1)):
            self.assertIsNone(factor(number, n))

    def test_kinds_of_what_is_returned(self):
        for terms in (factor((8, 1), 6), factor((-4, 1), 4)):
            self.assertIs(terms.__class__, tuple)
            for term in terms:
                self.assertEqual([one.__class__ for one in (term, term[0], term[1], *term[1])], [tuple, int, tuple, int, int])


class AlwaysWhole(unittest.TestCase):
    def test_small_numbers(self):
        for number in small_numbers(45) + FOURS:
            # A number that is a power has such an exponent below 20, but for 1 and -1.
            tried = [n for n in (4, *primes_in(2 * 3 * 5 * 7), 11, 13, 17, 19) if tried_reason(number, n) is not None]
            self.assertIs(is_always_whole(number), tried == [], number)

    def test_as_splits(self):
        for number in [*small_numbers(12), *FOURS, *GREAT, (-(2 ** 97), 1), (2 ** 97, 1), (-(2 ** 64), 1), (-(2 ** 64), 3 ** 32)]:
            self.assertIs(is_always_whole(number), not any([splits(number, n) for n in range(1, 101)]), number)

    def test_powers(self):
        for base, exponent in some_powers():
            top, bottom = as_power(base, exponent)
            self.assertIs(is_always_whole((top, bottom)), exponent == 1)
            odd = exponent & (exponent - 1) != 0
            self.assertIs(is_always_whole((-top, bottom)), not odd and not is_four_by_primes((-top, bottom)))

    def test_one(self):
        self.assertIs(is_always_whole((1, 1)), False)
        self.assertIs(is_always_whole((-1, 1)), False)


def tried_degrees(value, n):
    """The ascending degrees of the parts of x ** n - value, an integer, from its roots by trying.

    What a root is part of is the product of the fewest roots with it whose coefficients are integers.
    """
    size = abs(value) ** (1 / n)
    half_turns = [2 * place + (value < 0) for place in range(n)]
    left = [cmath.rect(size, pi * turn / n) for turn in half_turns if turn <= n]
    found = []
    while left:
        least = fewest_with_first(left, value, n)
        found.append(sum([1 if is_real(root) else 2 for root in least]))
        left = [root for root in left if root not in least]
    return sorted(found)


def is_real(root):
    return abs(root.imag) < 1e-9


def fewest_with_first(roots, value, n):
    """The first of the roots and as few others as can be whose product divides the equation."""
    for many in range(len(roots)):
        for others in combinations(roots[1:], many):
            if divides_with(roots[:1] + list(others), value, n):
                return roots[:1] + list(others)
    raise AssertionError((value, n))


def divides_with(roots, value, n):
    """Whether the product of x minus these roots, with their conjugates, has integers and divides the equation."""
    last = abs(value) ** (sum([1 if is_real(root) else 2 for root in roots]) / n)
    if abs(last - round(last)) > 1e-6 * last:
        return False
    product = {0: 1.0}
    for root in roots:
        if is_real(root):
            product = product_of(product, {1: 1.0, 0: -root.real})
        else:
            product = product_of(product, {2: 1.0, 1: -2 * root.real, 0: abs(root) ** 2})
    near = {exponent: round(entry) for exponent, entry in product.items()}
    # Another product near this one could divide the equation, too.
    allowed = 1e-6 + 1e-14 * max([abs(entry) for entry in near.values()])
    if max([abs(product[exponent] - near[exponent]) for exponent in product]) > allowed:
        return False
    return rest_by({n: 1, 0: -value}, near) == {}


def listed(pairs):
    """The degrees of the parts, each as often as there are such parts."""
    return [degree for degree, many in pairs for _ in range(many)]


class Parts(unittest.TestCase):
    def test_small_integers_by_trying(self):
        for value in [*range(-82, 83), -243, -128, -125, -100, 100, 121, 125, 128, 144, 216, 243, 256, -256, -324, -1024, 729]:
            if value:
                for n in range(1, 13):
                    told = tried_degrees(value, n)
                    self.assertEqual(listed(parts((value, 1), n)), told, (value, n))
                    self.assertEqual(count_parts((value, 1), n), len(told))

    def test_parts_in_two_halves_by_trying(self):
        told = [
            (2 ** 4, 8), (2 ** 4, 16), (-(2 ** 4), 8), (2 ** 12, 24), (-(2 ** 12), 24), (3 ** 3, 18), (3 ** 6, 12), (3 ** 6, 24),
            (-(3 ** 6), 12), (3 ** 12, 24), (5 ** 5, 10), (5 ** 5, 20), (-(5 ** 5), 10), (5 ** 10, 20), (-(5 ** 10), 20),
            (6 ** 6, 12), (-(6 ** 6), 12), (6 ** 12, 24), (-(6 ** 12), 24), (7 ** 7, 14), (-(7 ** 7), 14), (10 ** 10, 20),
            (-(10 ** 10), 20), (2 ** 10, 20), (-(2 ** 10), 20), (11 ** 11, 22), (-(11 ** 11), 22), (12 ** 6, 12), (-(12 ** 6), 12),
            (20 ** 5, 10), (-(20 ** 5), 10), (8 ** 4, 8), (18 ** 4, 8), (50 ** 4, 8), (-(27 ** 3), 6), (-(12 ** 3), 6),
            (13 ** 6, 12), (2 ** 8, 16), (-(2 ** 8), 16), (-64, 24), (64, 24), (-4, 24), (-324, 20), (1, 24), (-1, 24),
        ]
        for value, n in told:
            with self.subTest(value, n=n):
                self.assertEqual(listed(parts((value, 1), n)), tried_degrees(value, n))

    def test_fractions_as_integers(self):
        # With y = bottom * x, x ** n - top / bottom is y ** n - top * bottom ** (n - 1), but for a factor.
        for number in small_numbers(6) + [(8, 27), (-8, 27), (4, 9), (-4, 9), (-4, 81), (-1, 64), (-64, 81), (1, 64), (25, 9)]:
            for n in range(1, 9):
                value = number[0] * number[1] ** (n - 1)
                self.assertEqual(listed(parts(number, n)), tried_degrees(value, n), (number, n))

    def test_sums_and_counts(self):
        powers = [as_power(base, exponent) for base, exponent in some_powers() if exponent in (1, 2, 6, 12, 30, 60, 64, 90, 96)]
        numbers = small_numbers(5) + list(GREAT) + powers + [(-top, bottom) for top, bottom in powers] + FOURS[:9]
        for number in numbers:
            for n in (1, 2, 3, 4, 12, 30, 60, 97, 144, 360, 997, 1000):
                pairs = parts(number, n)
                self.assertEqual(sum([degree * many for degree, many in pairs]), n)
                self.assertEqual([degree for degree, many in pairs], sorted({degree for degree, many in pairs}))
                self.assertTrue(all([many > 0 and degree > 0 for degree, many in pairs]))
                self.assertEqual(count_parts(number, n), sum([many for degree, many in pairs]))
                self.assertIs(count_parts(number, n) == 1, not splits(number, n))

    def test_one(self):
        for n in (1, 2, 7, 12, 210, 360, 997, 999, 1000):
            self.assertEqual(parts((1, 1), n), one_by_divisors(n))
            twice = dict(one_by_divisors(2 * n))
            for degree, many in one_by_divisors(n):
                twice[degree] -= many
            self.assertEqual(parts((-1, 1), n), tuple([(degree, twice[degree]) for degree in sorted(twice) if twice[degree]]))
        self.assertEqual(parts((-1, 1), 512), ((512, 1),))
        self.assertEqual(count_parts((1, 1), 1000), 16)
        self.assertEqual(count_parts((-1, 1), 1000), 4)

    def test_greatest_degree(self):
        self.assertEqual(parts((2, 3), 1000), ((1000, 1),))
        self.assertEqual(parts((4, 9), 1000), ((500, 2),))
        self.assertEqual(parts((-4, 1), 1000), ((500, 2),))
        self.assertEqual(parts((-9, 1), 1000), ((1000, 1),))
        self.assertEqual(parts((32, 1), 1000), ((200, 1), (800, 1)))
        # By 1 and 5 alone; the square root of 5 is a sum of fifth roots of 1, so that the second one has two halves.
        self.assertEqual(parts((5 ** 5, 1), 1000), ((200, 1), (400, 2)))
        self.assertEqual(parts((-(5 ** 5), 1), 1000), ((200, 1), (800, 1)))

    def test_kinds_of_what_is_returned(self):
        pairs = parts((64, 1), 6)
        self.assertEqual([one.__class__ for one in (pairs, *pairs, *pairs[0])], [tuple, tuple, tuple, int, int])
        self.assertIs(count_parts((64, 1), 6).__class__, int)


def one_by_divisors(n):
    """The parts of x ** n - 1, by counting for each divisor."""
    found = {}
    for divisor in range(1, n + 1):
        if n % divisor == 0:
            degree = len([value for value in range(1, divisor + 1) if gcd(value, divisor) == 1])
            found[degree] = found.get(degree, 0) + 1
    return tuple(sorted(found.items()))


class EqualCalls(unittest.TestCase):
    def test_they_return_equal_results(self):
        for number in small_numbers(5):
            for call in (splits, why, factor, parts, count_parts):
                for n in (1, 4, 6):
                    self.assertEqual(call(number, n), call(tuple(list(number)), n))


if __name__ == "__main__":
    unittest.main()
