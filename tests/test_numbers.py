import inspect
import unittest
from fractions import Fraction
from math import gcd

from purepowers import numbers
from purepowers.errors import InvalidDegree, InvalidNumber, InvalidText, TooGreat
from purepowers.numbers import base_of, four_root, fraction_root_by, multiplied, number_text, power_root, read_number
from some_numbers import (
    BASES, GREAT, SIZE, as_power, exponent_by_primes, is_small, powers_of_all_sizes, small_numbers, some_powers, tried_base, whole_root,
)
from wrong_values import assert_told, no_degrees, no_integers, no_numbers, raised_by


class Signatures(unittest.TestCase):
    def test_names_and_kinds_of_parameters(self):
        told = {
            "number_text": ["number"], "read_number": ["text"], "base_of": ["number"], "power_root": ["number", "n"],
            "four_root": ["number"], "multiplied": ["number", "times"],
        }
        for name, names in told.items():
            with self.subTest(name):
                function = getattr(numbers, name)
                parameters = inspect.signature(function).parameters.values()
                self.assertEqual([one.name for one in parameters], names)
                self.assertEqual({one.kind for one in parameters}, {inspect.Parameter.POSITIONAL_OR_KEYWORD})
                self.assertEqual({one.default for one in parameters}, {inspect.Parameter.empty})
                self.assertEqual(function.__module__, "purepowers.numbers")

    def test_by_name(self):
        self.assertEqual(number_text(number=(-3, 4)), "-3/4")
        self.assertEqual(read_number(text="-3/4"), (-3, 4))
        self.assertEqual(base_of(number=(8, 27)), ((2, 3), 3))
        self.assertEqual(power_root(n=3, number=(8, 27)), (2, 3))
        self.assertEqual(power_root((8, 27), n=3), (2, 3))
        self.assertEqual(four_root(number=(-4, 1)), (1, 1))
        self.assertEqual(multiplied(times=6, number=(3, 4)), (9, 2))
        self.assertEqual(multiplied((3, 4), times=6), (9, 2))

    def test_examples_of_the_document(self):
        self.assertEqual(
            [number_text((-3, 4)), read_number("-3/4"), base_of((8, 27)), base_of((-4, 1)), base_of((12, 1)),
             base_of((-1, 1)), multiplied((3, 4), 6)],
            ["-3/4", (-3, 4), ((2, 3), 3), ((2, 1), 2), ((12, 1), 1), ((1, 1), 0), (9, 2)],
        )
        self.assertEqual(
            [power_root((8, 27), 3), power_root((-8, 27), 3), power_root((4, 1), 2), power_root((-4, 1), 2),
             power_root((1, 1), 10 ** 30), four_root((-4, 1)), four_root((-1, 4)), four_root((-8, 1))],
            [(2, 3), (-2, 3), (2, 1), None, (1, 1), (1, 1), (1, 2), None],
        )
        self.assertEqual(raised_by(self, InvalidText, read_number, "2/4").given, "2/4")


class WrongNumbers(unittest.TestCase):
    def test_each_function_tells_of_them(self):
        calls = {
            "number_text": number_text, "base_of": base_of, "four_root": four_root,
            "power_root": lambda number: power_root(number, 2), "multiplied": lambda number: multiplied(number, 2),
        }
        for name, call in calls.items():
            for value in no_numbers():
                with self.subTest(name, kind=value.__class__):
                    assert_told(self, InvalidNumber, value, call, value)

    def test_by_name(self):
        wrong = (2, 4)
        for function in (number_text, base_of, four_root):
            assert_told(self, InvalidNumber, wrong, function, number=wrong)
        assert_told(self, InvalidNumber, wrong, power_root, n=1, number=wrong)
        assert_told(self, InvalidNumber, wrong, multiplied, times=1, number=wrong)

    def test_they_come_ahead_of_wrong_degrees(self):
        for function in (power_root, multiplied):
            for wrong in no_degrees():
                number = (6, 4)
                assert_told(self, InvalidNumber, number, function, number, wrong)
        assert_told(self, InvalidNumber, True, power_root, n=0, number=True)
        assert_told(self, InvalidNumber, None, multiplied, times=None, number=None)

    def test_wrong_degrees(self):
        for function in (power_root, multiplied):
            for number in ((3, 4), (1, 1), (-1, 1), (4, 1), (SIZE, 1)):
                for wrong in no_degrees():
                    with self.subTest(function.__name__, kind=wrong.__class__):
                        assert_told(self, InvalidDegree, wrong, function, number, wrong)

    def test_lists_are_left_as_they_are(self):
        value = [3, 4]
        assert_told(self, InvalidNumber, value, number_text, value)
        self.assertEqual(value, [3, 4])


class Texts(unittest.TestCase):
    told = {
        (5, 1): "5", (-5, 1): "-5", (1, 1): "1", (-1, 1): "-1", (3, 4): "3/4", (-3, 4): "-3/4", (1, 10): "1/10",
        (100, 1): "100", (-100, 99): "-100/99", (SIZE, 1): "1" + "0" * 30, (-1, SIZE): "-1/1" + "0" * 30,
        (-SIZE, SIZE - 1): "-1" + "0" * 30 + "/" + "9" * 30, (2 ** 99, 1): "633825300114114700748351602688",
    }

    def test_written(self):
        for number, text in self.told.items():
            with self.subTest(text):
                self.assertEqual(number_text(number), text)

    def test_read(self):
        for number, text in self.told.items():
            with self.subTest(text):
                self.assertEqual(read_number(text), number)
                self.assertIs(read_number(text).__class__, tuple)
                self.assertEqual([one.__class__ for one in read_number(text)], [int, int])

    def test_there_and_back(self):
        for number in small_numbers(30) + list(GREAT):
            self.assertEqual(read_number(number_text(number)), number)

    def test_wrong_texts(self):
        wrong = [
            "", " ", "\n", "-", "/", "-/", "a", "one", "None", "True", "-a", "1a", "a1", "0x1", "1e3", "1_000", "1,000", "1.0",
            ".5", "1.", "0", "-0", "+0", "00", "0/1", "0/2", "-0/3", "0/0", "+5", "+3/4", "--5", "-+5", "+-5", "---5",
            "-5-", "5-", "- 5", "-\n5", "05", "-05", "005", "03/4", "-03/4", "3/04", "3/004", "0003", "3/4/", "/3/4",
            "3//4", "3/4/5", "3/", "/4", "-/4", "-3/", "3/-4", "-3/-4", "3/+4", "3/--4", "3/0", "-3/0", "3/00", "5/1", "-5/1",
            "1/1", "-1/1", "5/01", "2/4", "-2/4", "4/2", "6/9", "-15/25", "5/5", " 5", "5 ", "\n5", "5\n", " 3/4", "3/4 ",
            "3 /4", "3/ 4", "3 / 4", "3/4\n", "\n3/4", "3\n/4", "3/\n4", "1 2", "1 1/2", "3\\4", "3:4", "(3, 4)", "3, 4",
            "1" + "0" * 29 + "1", "-1" + "0" * 29 + "1", "1/1" + "0" * 29 + "1", "1" + "0" * 31, "2" + "0" * 30,
            "9" * 31, "-" + "9" * 32, "1/" + "9" * 31, "7" * 3000, "-" + "7" * 3999, "3/" + "7" * 3000, "0" * 30 + "1",
            "0" * 40 + "1", "3/" + "0" * 30 + "4", "-" * 4000, "/" * 4000, "1" + "0" * 30 + "/" + "1" + "0" * 30,
        ]
        for text in wrong:
            with self.subTest(text[:80]):
                assert_told(self, InvalidText, text, read_number, text)
                assert_told(self, InvalidText, text, read_number, text=text)

    def test_no_texts(self):
        values = [value for value in no_integers() if not isinstance(value, str)]
        for value in values + [1, -3, 0, (3, 4), ["5"], ("5",), ("3", "/", "4"), b"5", b"3/4", {"5": 1}]:
            with self.subTest(kind=value.__class__):
                assert_told(self, InvalidText, value, read_number, value)

    def test_digits_of_other_writings(self):
        for text in ("\u0663", "\u00b2", "1\u0663", "\uff15", "3/\u0664", "\u22125", "5\u00a0", "\u20445"):
            with self.subTest(ascii(text)):
                assert_told(self, InvalidText, text, read_number, text)


class Bases(unittest.TestCase):
    def test_one(self):
        self.assertEqual(base_of((1, 1)), ((1, 1), 0))
        self.assertEqual(base_of((-1, 1)), ((1, 1), 0))

    def test_small_numbers(self):
        for number in small_numbers(70):
            if number[1] == abs(number[0]):
                continue
            base, exponent = base_of(number)
            self.assertEqual(exponent, exponent_by_primes(number), number)
            self.assertEqual(as_power(base, exponent), (abs(number[0]), number[1]))

    def test_greater_ones(self):
        for top in range(1, 3000):
            for number in ((top, 1), (-top, 1), (1, top), (-1, top)):
                base, exponent = base_of(number)
                self.assertEqual(exponent, exponent_by_primes(number))
                self.assertEqual(as_power(base, exponent), (top, 1) if number[1] == 1 else (1, top))

    def test_powers_with_all_exponents(self):
        for base, n in some_powers():
            top, bottom = as_power(base, n)
            self.assertEqual(base_of((top, bottom)), (base, n))
            self.assertEqual(base_of((-top, bottom)), (base, n))

    def test_powers_of_many_numbers(self):
        # Enough of them to leave all rests that powers leave by small integers.
        for n in range(2, 100):
            for value in range(2, 1200):
                if value ** n > SIZE:
                    break
                exponent = exponent_by_primes((value, 1))
                base, told = base_of((value ** n, 1))
                self.assertEqual(told, n * exponent)
                self.assertEqual(as_power(base, exponent), (value, 1))
                self.assertEqual(base_of((-1, value ** n)), ((1, base[0]), told))
                self.assertEqual(power_root((value ** n, 1), n), (value, 1))
                # Two integers side by side have no common divisor, and are no powers both, but for 8 and 9.
                if value != 9 and value > 2:
                    self.assertEqual(base_of((-((value - 1) ** n), value ** n)), ((value - 1, value), n))

    def test_somewhat_beyond_the_greatest_number(self):
        # Products of numbers are asked for their bases, too.
        for base in (2, 3, 5, 6, 10):
            for n in range(2, 127):
                if base ** n < 2 ** 127:
                    self.assertEqual(fraction_root_by(base ** n, 1, 0), ((base, 1), n))
                    self.assertEqual(fraction_root_by(1, base ** n, 0), ((1, base), n))
                    self.assertEqual(fraction_root_by(base ** n, 7 ** 35, 0)[1], gcd(n, 35))

    def test_beside_powers(self):
        # By Mihailescu's theorem, 8 and 9 are the only powers side by side.
        for base, n in some_powers():
            if n > 3 and base[1] == 1:
                for top in (base[0] ** n - 1, base[0] ** n + 1):
                    if top <= SIZE:
                        self.assertEqual(base_of((top, 1)), ((top, 1), 1))
                        self.assertEqual(base_of((-1, top)), ((1, top), 1))

    def test_top_and_bottom_with_other_exponents(self):
        told = {
            (2 ** 30, 3 ** 20): ((8, 9), 10), (2 ** 12, 3 ** 18): ((4, 27), 6), (4, 27): ((4, 27), 1),
            (-(2 ** 10), 3 ** 15): ((4, 27), 5), (64, 729): ((2, 3), 6), (64, 9): ((8, 3), 2), (64, 27): ((4, 3), 3),
            (16, 5): ((16, 5), 1), (5, 16): ((5, 16), 1), (16, 25): ((4, 5), 2), (36, 1): ((6, 1), 2),
            (72, 1): ((72, 1), 1), (144, 169): ((12, 13), 2), (1, 64): ((1, 2), 6), (-1, 8): ((1, 2), 3),
        }
        for number, pair in told.items():
            with self.subTest(number):
                self.assertEqual(base_of(number), pair)

    def test_great_numbers(self):
        told = {
            (SIZE, 1): ((10, 1), 30), (-SIZE, 1): ((10, 1), 30), (1, SIZE): ((1, 10), 30), (-1, SIZE): ((1, 10), 30),
            (2 ** 99, 1): ((2, 1), 99), (1, 2 ** 99): ((1, 2), 99), (-(2 ** 99), 1): ((2, 1), 99),
            (3 ** 62, 1): ((3, 1), 62), (3 ** 62, 2 ** 62): ((3, 2), 62), (3 ** 62, 2 ** 99): ((3 ** 62, 2 ** 99), 1),
            (SIZE, SIZE - 1): ((SIZE, SIZE - 1), 1), (SIZE - 1, 1): ((SIZE - 1, 1), 1),
            (10 ** 29, 1): ((10, 1), 29), (10 ** 29, 3 ** 29): ((10, 3), 29), (10 ** 28, 3 ** 42): ((100, 27), 14),
            ((10 ** 15 - 1) ** 2, 1): ((10 ** 15 - 1, 1), 2), ((10 ** 15 - 1) ** 2, SIZE): ((10 ** 15 - 1, 10 ** 15), 2),
            ((10 ** 15 - 1) ** 2 - 1, 1): (((10 ** 15 - 1) ** 2 - 1, 1), 1),
            ((10 ** 10 - 1) ** 3, SIZE): ((10 ** 10 - 1, 10 ** 10), 3), (-(999983 ** 5), 1): ((999983, 1), 5),
        }
        for number, pair in told.items():
            with self.subTest(number):
                self.assertEqual(base_of(number), pair)

    def test_kinds_of_what_is_returned(self):
        for number in ((8, 27), (-1, 1), (12, 1), (-SIZE, 1)):
            pair = base_of(number)
            self.assertEqual([one.__class__ for one in (pair, pair[0], *pair[0], pair[1])], [tuple, tuple, int, int, int])


class AllExponents(unittest.TestCase):
    """Bases and exponents against powers tried one by one."""

    def check_base(self, top, bottom):
        told = tried_base(top, bottom)
        self.assertEqual(base_of((top, bottom)), told)
        self.assertEqual(base_of((-top, bottom)), told)

    def test_powers_and_their_neighbours(self):
        for base, n in powers_of_all_sizes():
            for value in (base ** n - 1, base ** n, base ** n + 1, 2 * base ** n, 3 * base ** n, base ** n // base * 5, 257 * base ** n):
                if 1 <= value <= SIZE:
                    self.check_base(value, 1)
                    self.check_base(1, value)

    def test_only_the_top_or_the_bottom_is_a_power(self):
        others = (2, 3, 4, 7 ** 3, 8, 10 ** 30 - 11, 257, 257 ** 2, 263 ** 3, 2 ** 99, 3 ** 60, SIZE, SIZE - 1, 11 ** 28, 6 ** 35, 263 ** 12)
        for base, n in powers_of_all_sizes()[::3]:
            for other in others:
                if gcd(base, other) == 1:
                    self.check_base(base ** n, other)
                    self.check_base(other, base ** n)

    def test_powers_of_fractions(self):
        pairs = [(one, other) for one in BASES for other in BASES if gcd(one, other) == 1]
        for one, other in pairs:
            for n in range(2, 60):
                if max(one, other) ** n <= SIZE:
                    self.check_base(one ** n, other ** n)
                    self.check_base(one ** n, other ** (n - 1))

    def test_all_small_integers(self):
        told = {1: ((1, 1), 0)}
        for base in range(2, 20001):
            for n in range(1, 15):
                if base ** n <= 20000:
                    told.setdefault(base ** n, ((base, 1), n))
        for value in range(1, 20001):
            self.assertEqual(base_of((value, 1)), told[value])
            self.assertEqual(base_of((-value, 1)), told[value])

    def test_roots_with_all_exponents(self):
        for base, n in powers_of_all_sizes()[::2]:
            for many in (*range(1, 14), n, 2 * n, 59, 97, 99, 10 ** 29, SIZE):
                value = base ** n
                root = whole_root(value, many) if many < 200 else 1
                told = (root, 1) if root ** min(many, 200) == value else None
                self.assertEqual(power_root((value, 1), many), told, (base, n, many))
                opposite = (-root, 1) if told and many % 2 else None
                self.assertEqual(power_root((-value, 1), many), opposite, (base, n, many))

    def test_beyond_the_greatest_number(self):
        # Products of numbers, up to some hundred times the greatest one, are asked for their bases, too.
        near = (257, 263, 269, 271, 277, 281, 283, 293, 307, 311, 313)
        for base in (*BASES, *near, 10 ** 15 + 37, 10 ** 10 + 19):
            for n in range(1, 109):
                if base ** n < 2 ** 108:
                    for value in (base ** n, base ** n + 1, 2 * base ** n):
                        self.assertEqual(fraction_root_by(value, 1, 0), tried_base(value, 1))
                        self.assertEqual(fraction_root_by(1, value, 0), tried_base(1, value))


class PowerRoots(unittest.TestCase):
    def test_one(self):
        for n in (1, 2, 3, 4, 5, 30, 99, 100, 101, 1000, 10 ** 18, SIZE - 1, SIZE):
            with self.subTest(n=n):
                self.assertEqual(power_root((1, 1), n), (1, 1))
                self.assertEqual(power_root((-1, 1), n), (-1, 1) if n % 2 else None)

    def test_with_one(self):
        for number in small_numbers(12) + list(GREAT):
            self.assertEqual(power_root(number, 1), number)

    def test_small_numbers(self):
        roots = small_numbers(40)
        for n in (2, 3, 4, 5, 6, 7):
            powers = {}
            for root in sorted(roots):
                # The positive one of two is the later one.
                powers[as_power(root, n)] = root
            for number in roots + list(powers):
                if is_small(number):
                    self.assertEqual(power_root(number, n), powers.get(number), (number, n))

    def test_all_exponents(self):
        for base, exponent in some_powers():
            top, bottom = as_power(base, exponent)
            for n in (*range(1, 13), exponent - 1, exponent, exponent + 1, 2 * exponent, 97, 98, 99, 100, 10 ** 29, SIZE):
                if n < 1:
                    continue
                root = as_power(base, exponent // n) if exponent % n == 0 else None
                self.assertEqual(power_root((top, bottom), n), root)
                opposite = None if root is None or n % 2 == 0 else (-root[0], root[1])
                self.assertEqual(power_root((-top, bottom), n), opposite)

    def test_great_numbers(self):
        self.assertEqual(power_root((2 ** 99, 1), 99), (2, 1))
        self.assertEqual(power_root((-(2 ** 99), 1), 33), (-8, 1))
        self.assertEqual(power_root((-1, 2 ** 99), 11), (-1, 512))
        self.assertEqual(power_root((SIZE, 1), 30), (10, 1))
        self.assertEqual(power_root((SIZE, 1), 15), (100, 1))
        self.assertEqual(power_root((-SIZE, 1), 15), (-100, 1))
        self.assertIsNone(power_root((-SIZE, 1), 30))
        self.assertIsNone(power_root((SIZE, 1), 4))
        self.assertIsNone(power_root((SIZE - 1, 1), 2))
        self.assertIsNone(power_root((2, 1), SIZE))
        self.assertIsNone(power_root((SIZE, SIZE - 1), SIZE))

    def test_kinds_of_what_is_returned(self):
        for number, n in (((8, 27), 3), ((-8, 27), 3), ((1, 1), SIZE), ((-1, 1), 1)):
            root = power_root(number, n)
            self.assertEqual([one.__class__ for one in (root, *root)], [tuple, int, int])


class FourRoots(unittest.TestCase):
    @staticmethod
    def four(root):
        value = -4 * Fraction(*root) ** 4
        return (value.numerator, value.denominator)

    def test_fours(self):
        for root in small_numbers(40):
            if root[0] > 0:
                self.assertEqual(four_root(self.four(root)), root)

    def test_all_others(self):
        fours = {self.four(root): root for root in small_numbers(60) if root[0] > 0}
        for number in small_numbers(80):
            self.assertEqual(four_root(number), fours.get(number), number)
        for top in range(-5000, 5000):
            if top:
                self.assertEqual(four_root((top, 1)), fours.get((top, 1)), top)
                number = (1, top) if top > 0 else (-1, -top)
                self.assertEqual(four_root(number), fours.get(number), number)

    def test_neighbours(self):
        for root in small_numbers(25):
            top, bottom = self.four(root)
            self.assertIsNone(four_root((-top, bottom)))
            for number in ((top + 1, bottom), (top - 1, bottom), (top, bottom + 1), (2 * top, bottom), (4 * top, bottom)):
                if number[0] != 0 and gcd(*number) == 1:
                    self.assertIsNone(four_root(number), number)

    def test_great_ones(self):
        self.assertEqual(four_root((-4 * 22360679 ** 4, 1)), (22360679, 1))
        self.assertEqual(four_root((-4 * 22360679 ** 4, 31622775 ** 4)), (22360679, 31622775))
        self.assertEqual(four_root((-4, 31622775 ** 4)), (1, 31622775))
        self.assertEqual(four_root((-1, 4 * 22360679 ** 4)), (1, 44721358))
        self.assertEqual(four_root((-(31622775 ** 4), 4 * 22360679 ** 4)), (31622775, 44721358))
        self.assertEqual(four_root((-4 * 10 ** 28, 1)), (10 ** 7, 1))
        self.assertEqual(four_root((-1, 4 * 10 ** 28)), (1, 2 * 10 ** 7))
        self.assertIsNone(four_root((-4 * 22360679 ** 4 + 1, 1)))
        self.assertIsNone(four_root((-4 * 22360679 ** 4 - 4, 1)))
        self.assertIsNone(four_root((4 * 22360679 ** 4, 1)))
        for number in GREAT:
            self.assertIsNone(four_root(number))

    def test_halves_of_fours_and_fourth_powers(self):
        for number in ((-1, 1), (-2, 1), (-8, 1), (-16, 1), (-81, 1), (-1, 2), (-1, 8), (-1, 16), (-4, 9), (-4, 3), (-12, 1)):
            self.assertIsNone(four_root(number), number)

    def test_kinds_of_what_is_returned(self):
        self.assertEqual([one.__class__ for one in (four_root((-4, 81)), *four_root((-4, 81)))], [tuple, int, int])


class Multiples(unittest.TestCase):
    def test_small_numbers(self):
        for number in small_numbers(16):
            for times in range(1, 41):
                value = Fraction(*number) * times
                self.assertEqual(multiplied(number, times), (value.numerator, value.denominator))

    def test_once(self):
        for number in small_numbers(12) + list(GREAT):
            self.assertEqual(multiplied(number, 1), number)

    def test_up_to_the_bound(self):
        told = {
            ((1, 1), SIZE): (SIZE, 1), ((-1, 1), SIZE): (-SIZE, 1), ((10 ** 15, 1), 10 ** 15): (SIZE, 1),
            ((-(10 ** 15), 1), 10 ** 15): (-SIZE, 1), ((SIZE // 2, 1), 2): (SIZE, 1), ((SIZE, 7), 7): (SIZE, 1),
            ((-SIZE, 21), 7): (-SIZE, 3), ((1, SIZE), SIZE): (1, 1), ((-1, SIZE), SIZE): (-1, 1),
            ((SIZE - 1, SIZE), SIZE): (SIZE - 1, 1), ((SIZE, SIZE - 1), SIZE - 1): (SIZE, 1),
            ((-SIZE, SIZE - 1), 9): (-SIZE, (SIZE - 1) // 9), ((1, 3), SIZE): (SIZE, 3), ((3, 10), SIZE): (3 * 10 ** 29, 1),
        }
        for (number, times), answer in told.items():
            with self.subTest(number, times=times):
                self.assertEqual(multiplied(number, times), answer)

    def test_too_great(self):
        told = {
            ((SIZE, 1), 2): 2 * SIZE, ((-SIZE, 1), 2): -2 * SIZE, ((SIZE // 2 + 1, 1), 2): SIZE + 2,
            ((-(SIZE // 2) - 1, 1), 2): -SIZE - 2, ((SIZE, 1), SIZE): 10 ** 60, ((-SIZE, 1), SIZE): -(10 ** 60),
            ((3, 2), SIZE): 3 * SIZE // 2, ((-3, 2), SIZE): -3 * SIZE // 2, ((SIZE, 3), 2): 2 * SIZE,
            ((SIZE, 21), 14): 2 * SIZE, ((-SIZE, 21), 14): -2 * SIZE, ((SIZE - 1, SIZE), SIZE - 1): (SIZE - 1) ** 2,
            ((2, 1), SIZE // 2 + 1): SIZE + 2, ((101, 1), 9900990099009900990099009901): SIZE + 1,
            ((-101, 1), 9900990099009900990099009901): -SIZE - 1,
        }
        for (number, times), top in told.items():
            with self.subTest(number, times=times):
                self.assertEqual(raised_by(self, TooGreat, multiplied, number, times).given, top)

    def test_too_great_comes_last(self):
        for wrong in (SIZE + 1, 10 ** 40, 0, True, None):
            assert_told(self, InvalidDegree, wrong, multiplied, (SIZE, 1), wrong)

    def test_kinds_of_what_is_returned(self):
        answer = multiplied((-3, 4), 6)
        self.assertEqual([one.__class__ for one in (answer, *answer)], [tuple, int, int])


class EqualCalls(unittest.TestCase):
    def test_they_return_equal_results(self):
        for number in small_numbers(8):
            for call in (number_text, base_of, four_root, lambda a: power_root(a, 2), lambda a: multiplied(a, 6)):
                self.assertEqual(call(number), call(tuple(list(number))))


if __name__ == "__main__":
    unittest.main()
