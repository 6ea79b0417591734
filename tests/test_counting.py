import unittest
from fractions import Fraction

from purepowers import counting
from purepowers.counting import (
    count_always, count_numbers, count_splits, first_split, least_times, next_split, nth_split,
)
from purepowers.errors import InvalidDegree, InvalidKind, InvalidNumber
from purepowers.splitting import is_always_whole, splits
from some_numbers import (
    GREAT, SIZE, as_power, powers_of_all_sizes, primes_up_to, small_numbers, some_powers, steps_by_primes, tried_base, tried_reason,
    whole_root,
)
from wrong_values import assert_each_argument, no_degrees, no_numbers, no_signs, raised_by, told_as_given

MOST = 10 ** 18
ONES = ((1, 1), (-1, 1))
# Numbers with one, two and three primes in the exponent, above 0 and below, with fours among them.
POWERS = (
    (4, 1), (8, 27), (-8, 27), (16, 1), (64, 1), (-64, 1), (2 ** 30, 1), (-(2 ** 30), 1), (2 ** 15, 3 ** 15), (-1, 2 ** 15),
    (2 ** 35, 1), (-(2 ** 35), 3 ** 35), (2 ** 60, 1), (-(2 ** 60), 1), (2 ** 70, 1), (-(2 ** 70), 1), (2 ** 90, 1), (-(2 ** 90), 1),
    (2 ** 97, 1), (-(2 ** 97), 1), (2 ** 99, 1), (-(2 ** 99), 1), (-4, 1), (-4, 81), (-1, 4), (-(2 ** 10), 1), (-(2 ** 14), 1),
    (-(2 ** 94), 1), (-(2 ** 86), 1), (SIZE, 1), (-SIZE, 1), (1, SIZE), (-1, 4 * 10 ** 28), (-(2 ** 42), 1), (2 ** 66, 1), (-(2 ** 66), 1),
)
WHOLE = ((2, 1), (-2, 1), (2, 3), (-3, 2), (-9, 1), (-16, 1), (-81, 16), (-(2 ** 64), 1), (12, 1), (SIZE - 1, 1), (SIZE - 1, SIZE), (-SIZE, SIZE - 1))
FIGURES = (
    1, 2, 3, 10, 96, 97, 1000, 10 ** 18, 2 ** 60, 2 ** 97 - 1, 2 ** 97, 2 ** 99, 3 ** 62, 7 ** 35, 10 ** 29, 123456789012345678901234567890,
    999999999999999999999999999989, SIZE - 97, SIZE - 4, SIZE - 3, SIZE - 2, SIZE - 1, SIZE,
)


def tried_splits(number, most):
    """All n up to this one for which the equation of a small number splits, by trying."""
    return [n for n in range(1, most + 1) if tried_reason(number, n) is not None]


def counted(steps, many):
    """How many integers up to this one have one of the steps as a divisor: by all products of some of them."""
    found = 0
    for mask in range(1, 2 ** len(steps)):
        chosen = [step for at, step in enumerate(steps) if mask >> at & 1]
        product = 1
        for step in chosen:
            product *= step
        found += many // product if len(chosen) % 2 else -(many // product)
    return found


class Signatures(unittest.TestCase):
    def test_places(self):
        names = ("first_split", "count_splits", "next_split", "nth_split", "count_always", "least_times", "count_numbers")
        for name in names:
            self.assertEqual(getattr(counting, name).__module__, "purepowers.counting")

    def test_by_name(self):
        self.assertEqual(first_split(number=(64, 1)), 2)
        self.assertEqual(count_splits(many=100, number=(64, 1)), 67)
        self.assertEqual(next_split(n=4, number=(64, 1)), 6)
        self.assertEqual(nth_split(place=2, number=(64, 1)), 3)
        self.assertEqual(count_always(sign=1, many=100), 87)
        self.assertEqual(least_times(number=(64, 1)), 3)
        self.assertEqual(count_numbers(sign=-1, many=100, n=12), 5)

    def test_examples_of_the_document(self):
        self.assertEqual(
            [first_split((64, 1)), first_split((-64, 1)), first_split((2, 3)), count_splits((64, 1), 100),
             count_splits((-64, 1), 100), count_splits((1, 1), 10), count_splits((-1, 1), 10)],
            [2, 3, None, 67, 50, 9, 6],
        )
        self.assertEqual(
            [next_split((-4, 1), 10 ** 30) - 10 ** 30, nth_split((64, 1), 1), nth_split((8, 1), 10 ** 18), count_always(100, 1),
             count_always(10, -1), least_times((64, 1)), least_times((-4, 1)), least_times((1, 1)), count_numbers(6, 100, 1),
             count_numbers(4, 100, -1), count_numbers(12, 100, -1), count_numbers(1, 100, 1)],
            [4, 2, 3000000000000000000, 87, 7, 3, 3, 2, 12, 2, 5, 0],
        )


class WrongArguments(unittest.TestCase):
    def test_each_argument(self):
        number = ((64, 1), InvalidNumber, "given", told_as_given(no_numbers()))
        degree = (6, InvalidDegree, "given", told_as_given(no_degrees()))
        many = (6, InvalidDegree, "given", told_as_given(no_degrees(0)))
        few = (6, InvalidDegree, "given", told_as_given(no_degrees(0, MOST)))
        small = (6, InvalidDegree, "given", told_as_given(no_degrees(1, 1000)))
        sign = (1, InvalidKind, "given", told_as_given(no_signs()))
        assert_each_argument(self, first_split, number)
        assert_each_argument(self, count_splits, number, many)
        assert_each_argument(self, next_split, number, degree)
        assert_each_argument(self, nth_split, number, degree)
        assert_each_argument(self, count_always, few, sign)
        assert_each_argument(self, least_times, number)
        assert_each_argument(self, count_numbers, small, few, sign)

    def test_wrong_degrees_of_all_numbers(self):
        for number in (*ONES, *POWERS, *WHOLE):
            for function, least in ((count_splits, 0), (next_split, 1), (nth_split, 1)):
                function(number, least)
                function(number, SIZE)
                for wrong in (least - 1, SIZE + 1, True, False, None):
                    self.assertIs(raised_by(self, InvalidDegree, function, number, wrong).given, wrong)

    def test_bounds(self):
        for sign in (1, -1):
            for many in (0, MOST):
                count_always(many, sign)
                count_numbers(1, many, sign)
                count_numbers(1000, many, sign)
            for wrong in (-1, MOST + 1):
                self.assertEqual(raised_by(self, InvalidDegree, count_always, wrong, sign).given, wrong)
                self.assertEqual(raised_by(self, InvalidDegree, count_numbers, 1000, wrong, sign).given, wrong)
            for wrong in (0, 1001):
                self.assertEqual(raised_by(self, InvalidDegree, count_numbers, wrong, MOST, sign).given, wrong)


class SmallBounds(unittest.TestCase):
    numbers = small_numbers(11) + [
        (25, 16), (-25, 16), (27, 64), (-27, 64), (32, 1), (-32, 1), (64, 1), (-64, 1), (64, 729), (-64, 729), (-4, 81), (-64, 81),
        (128, 1), (-128, 1), (-324, 1), (-1024, 1), (1024, 1), (-1, 64), (-81, 4), (4096, 1), (-4096, 1), (-81, 64), (-4, 625),
    ]

    def test_against_trying(self):
        for number in self.numbers:
            found = tried_splits(number, 210)
            self.assertEqual(first_split(number), found[0] if found else None)
            for many in range(0, 211):
                self.assertEqual(count_splits(number, many), len([n for n in found if n <= many]), (number, many))
            for n in range(1, 190):
                self.assertEqual(next_split(number, n), min([m for m in found if m > n], default=None), (number, n))
            for place in range(1, len(found) + 1):
                self.assertEqual(nth_split(number, place), found[place - 1])

    def test_against_splits(self):
        for number in POWERS + WHOLE + GREAT:
            found = [n for n in range(1, 500) if splits(number, n)]
            self.assertEqual(first_split(number), found[0] if found else None)
            self.assertEqual([count_splits(number, many) for many in range(0, 500)], counts_up_to(found, 500))
            for n in range(1, 300):
                self.assertEqual(next_split(number, n), min([m for m in found if m > n], default=None))
            for place, n in enumerate(found, start=1):
                self.assertEqual(nth_split(number, place), n)


def counts_up_to(found, beyond):
    return [len([n for n in found if n <= many]) for many in range(0, beyond)]


class GreatBounds(unittest.TestCase):
    def test_counts(self):
        for number in POWERS:
            steps = steps_by_primes(number)
            for many in (0, *FIGURES):
                self.assertEqual(count_splits(number, many), counted(steps, many), (number, many))

    def test_next_ones(self):
        for number in POWERS:
            steps = steps_by_primes(number)
            for n in FIGURES:
                following = next_split(number, n)
                self.assertTrue(following > n)
                self.assertEqual(counted(steps, following), counted(steps, n) + 1)
                self.assertEqual(counted(steps, following - 1), counted(steps, n))
                if following <= SIZE:
                    self.assertIs(splits(number, following), True)
                    self.assertEqual(count_splits(number, following), count_splits(number, n) + 1)
                    self.assertEqual(count_splits(number, following - 1), count_splits(number, n))
                    self.assertEqual(nth_split(number, count_splits(number, following)), following)

    def test_places(self):
        for number in POWERS:
            steps = steps_by_primes(number)
            for place in FIGURES:
                n = nth_split(number, place)
                self.assertEqual(counted(steps, n), place, (number, place))
                self.assertEqual(counted(steps, n - 1), place - 1, (number, place))
                if n <= SIZE:
                    self.assertIs(splits(number, n), True)
                    self.assertEqual(count_splits(number, n), place)
                    self.assertEqual(count_splits(number, n - 1), place - 1)
                    self.assertEqual(next_split(number, n - 1) if n > 1 else first_split(number), n)

    def test_powers_of_all_sizes(self):
        primes = primes_up_to(100)
        for base, n in powers_of_all_sizes()[::2]:
            for value in (base ** n, base ** n + 1, 2 * base ** n, 4 * base ** n):
                if value > SIZE:
                    continue
                exponent = tried_base(value, 1)[1]
                steps = [prime for prime in primes if exponent % prime == 0]
                self.check_steps((value, 1), steps)
                self.check_steps((1, value), steps)
                odd = [step for step in steps if step > 2]
                is_four = value % 4 == 0 and whole_root(value // 4, 4) ** 4 == value // 4
                self.check_steps((-value, 1), sorted(odd + [4] * is_four))
                self.check_steps((-1, value), sorted(odd + [4] * (whole_root(4 * value, 4) ** 4 == 4 * value)))

    def check_steps(self, number, steps):
        """The equation splits just for the n that one of the steps divides."""
        self.assertEqual(first_split(number), min(steps, default=None))
        for n in (6, 1001, SIZE):
            self.assertEqual(count_splits(number, n), counted(steps, n))
            following = min([(n // step + 1) * step for step in steps], default=None)
            self.assertEqual(next_split(number, n), following)
            if steps:
                self.assertEqual(nth_split(number, counted(steps, following)), following)

    def test_always_whole(self):
        for number in WHOLE:
            self.assertIsNone(first_split(number))
            for n in FIGURES:
                self.assertEqual(count_splits(number, n), 0)
                self.assertIsNone(next_split(number, n))
                self.assertIsNone(nth_split(number, n))

    def test_one(self):
        self.assertEqual([first_split(one) for one in ONES], [2, 3])
        for many in (0, 1, 2, 3, 4, 10 ** 29, SIZE):
            self.assertEqual(count_splits((1, 1), many), max(many - 1, 0))
        for n in (1, 2, 10 ** 29, SIZE - 1, SIZE):
            self.assertEqual(next_split((1, 1), n), n + 1)
            self.assertEqual(nth_split((1, 1), n), n + 1)

    def test_minus_one(self):
        powers = [2 ** k for k in range(100)]
        for many in (0, 1, 2, 3, 4, *[power + by for power in powers for by in (-1, 0, 1)], SIZE - 1, SIZE):
            self.assertEqual(count_splits((-1, 1), many), many - len([power for power in powers if power <= many]))
        for n in (1, 2, *[power + by for power in powers[1:] for by in (-2, -1, 0, 1)], SIZE - 1, SIZE):
            if n > 0:
                told = n + 2 if n + 1 in powers else n + 1
                self.assertEqual(next_split((-1, 1), n), told)
        for n in (3, 5, *[power + by for power in powers[3:] for by in (-1, 1)], 10 ** 29, SIZE - 1, SIZE):
            place = n - len([power for power in powers if power <= n])
            self.assertEqual(nth_split((-1, 1), place), n)
        self.assertEqual(nth_split((-1, 1), SIZE), SIZE + 100)

    def test_neighbouring_bounds(self):
        for number in (*POWERS, *ONES):
            for n in range(SIZE - 30, SIZE + 1):
                self.assertEqual(count_splits(number, n) - count_splits(number, n - 1), 1 if splits(number, n) else 0)


class Integers(unittest.TestCase):
    def test_always_whole_by_trying(self):
        for sign in (1, -1):
            many = 0
            self.assertEqual(count_always(0, sign), 0)
            for value in range(1, 3001):
                # A power up to 3000 has a prime exponent up to 11.
                if value > 1 and not any([tried_reason((sign * value, 1), n) for n in (3, 4, 5, 7, 11)]):
                    many += 1
                self.assertEqual(count_always(value, sign), many, (value, sign))

    def test_numbers_by_trying(self):
        for sign in (1, -1):
            for n in (1, 2, 3, 4, 5, 6, 7, 8, 9, 10, 12, 15, 16, 20, 24, 30, 36, 60, 97, 210, 420, 840, 997, 1000):
                many = 0
                self.assertEqual(count_numbers(n, 0, sign), 0)
                for value in range(1, 700):
                    if tried_reason((sign * value, 1), n) is not None:
                        many += 1
                    self.assertEqual(count_numbers(n, value, sign), many, (n, value, sign))

    def test_numbers_against_splits(self):
        for sign in (1, -1):
            for n in (2, 3, 4, 6, 12, 20, 60, 420, 990):
                many = len([value for value in range(1, 20001) if splits((sign * value, 1), n)])
                self.assertEqual(count_numbers(n, 20000, sign), many)
            many = len([value for value in range(1, 40001) if is_always_whole((sign * value, 1))])
            self.assertEqual(count_always(40000, sign), many)

    def great_ones(self):
        """Great integers: powers of all forms, fours, those beside them, and others."""
        found = [MOST, MOST - 1, MOST - 2, 10 ** 17, 123456789012345678, 999999999999999989]
        for n in range(2, 60):
            root = round(MOST ** (1 / n)) + 1
            for base in range(max(root - 3, 2), root + 1):
                found = found + [base ** n - 1, base ** n, base ** n + 1]
        for base in (22360, 22328, 20736, 2 ** 14, 2 ** 13, 3 ** 9, 2 ** 3 * 3 ** 7, 4, 16, 10 ** 4, 1, 2, 3):
            four = 4 * base ** 4
            found = found + [four - 1, four, four + 1]
        return sorted({value for value in found if 2 <= value <= MOST})

    def test_one_step_further(self):
        for sign in (1, -1):
            for value in self.great_ones():
                number = (sign * value, 1)
                told = 1 if is_always_whole(number) else 0
                self.assertEqual(count_always(value, sign) - count_always(value - 1, sign), told, number)
                for n in (2, 3, 4, 12, 35, 59, 60, 420, 990, 997):
                    told = 1 if splits(number, n) else 0
                    self.assertEqual(count_numbers(n, value, sign) - count_numbers(n, value - 1, sign), told, (n, number))

    def test_great_counts(self):
        self.assertEqual(count_numbers(2, MOST, 1), 10 ** 9)
        self.assertEqual(count_numbers(3, MOST, 1), 10 ** 6)
        self.assertEqual(count_numbers(3, MOST, -1), 10 ** 6)
        self.assertEqual(count_numbers(6, MOST, 1), 10 ** 9 + 10 ** 6 - 10 ** 3)
        self.assertEqual(count_numbers(2, MOST, -1), 0)
        self.assertEqual(count_numbers(4, MOST, 1), 10 ** 9)
        self.assertEqual(count_numbers(4, MOST, -1), 22360)
        self.assertEqual(count_numbers(997, MOST, 1), 1)
        self.assertEqual(count_numbers(997, MOST, -1), 1)
        self.assertEqual(count_numbers(997, 0, -1), 0)
        self.assertEqual(count_numbers(1, MOST, 1), 0)
        self.assertEqual(count_numbers(1, MOST, -1), 0)
        # Those b up to 22360 whose fours are cubes are 2 * w ** 3, w up to 22.
        self.assertEqual(count_numbers(12, MOST, -1), 10 ** 6 + 22360 - 22)
        # So many powers are told elsewhere, too: A070428 of the encyclopedia of integer sequences.
        self.assertEqual(count_always(MOST, 1), MOST - 1001003332)

    def test_always_whole_by_roots(self):
        # Each power counts once, by the products of an odd number of primes less those of an even number.
        primes = primes_up_to(59)
        for many in (2, 10, 1000, 10 ** 9, 10 ** 15, MOST - 1, MOST):
            powers = 0
            for n in range(2, 60):
                dividing = [prime for prime in primes if n % prime == 0]
                if all([n % (prime * prime) for prime in dividing]):
                    root = count_numbers(dividing[0], many, 1) if n in primes else whole_root(many, n)
                    powers += (root - 1) if len(dividing) % 2 else (1 - root)
            self.assertEqual(count_always(many, 1), many - 1 - powers)

    def test_kinds_of_what_is_returned(self):
        for value in (count_always(100, -1), count_numbers(12, 100, -1), count_splits((-64, 1), 100), least_times((64, 1)),
                      first_split((64, 1)), next_split((-1, 1), 3), nth_split((-64, 1), 3), count_splits((2, 1), 5)):
            self.assertIs(value.__class__, int)


class Times(unittest.TestCase):
    @staticmethod
    def is_tried(number, times):
        """Whether the number times this is always whole, by the exponents of the primes."""
        product = Fraction(*number) * times
        top, bottom = product.numerator, product.denominator
        return abs(top) != bottom and steps_by_primes((top, bottom)) == []

    def check_times(self, number):
        times = least_times(number)
        self.assertTrue(self.is_tried(number, times), number)
        for lower in range(1, times):
            self.assertFalse(self.is_tried(number, lower), number)

    def test_small_numbers(self):
        for number in small_numbers(36):
            self.check_times(number)
        for top in range(1, 1500):
            for number in ((top, 1), (-top, 1), (1, top), (-1, top)):
                self.check_times(number)

    def test_powers(self):
        for base, exponent in some_powers():
            top, bottom = as_power(base, exponent)
            self.check_times((top, bottom))
            self.check_times((-top, bottom))

    def test_all_powers_of_two_and_three(self):
        for twos in range(0, 60, 1):
            for threes in range(0, 39, 3):
                one, other = 2 ** twos, 3 ** threes
                pairs = [(one, other)] + [(one * other, 1), (1, one * other)] * (one * other <= SIZE)
                for top, bottom in pairs:
                    self.check_times((top, bottom))
                    self.check_times((-top, bottom))

    def test_told_ones(self):
        told = {
            (1, 1): 2, (-1, 1): 2, (2, 1): 1, (-9, 1): 1, (4, 1): 3, (-4, 1): 3, (64, 1): 3, (-64, 1): 3, (-8, 1): 2, (-16, 1): 1,
            (-32, 1): 3, (1, 2): 1, (1, 4): 2, (-1, 4): 2, (1, 8): 3, (-1, 8): 3, (-27, 1): 2, (9, 1): 2, (3 ** 4 * 4, 1): 2,
            (2 ** 20 * 3 ** 24, 1): 5, (1, 2 ** 20 * 3 ** 24): 2, (1, 2 ** 10 * 3 ** 6): 5, (-(2 ** 20 * 3 ** 24), 1): 1,
        }
        for number, times in told.items():
            with self.subTest(number):
                self.assertEqual(least_times(number), times)

    def test_beyond_the_greatest_number(self):
        told = {
            (2 ** 99, 1): 3, (-(2 ** 99), 1): 3, (2 ** 98, 1): 3, (-(2 ** 98), 1): 3, (SIZE, 1): 2, (-SIZE, 1): 2, (3 ** 62, 1): 2,
            (-(3 ** 62), 1): 2, (5 ** 42, 1): 2, (6 ** 38, 1): 2, (-(6 ** 38), 1): 2, (30 ** 20, 1): 2, (-(30 ** 20), 1): 2,
            (210 ** 12, 1): 2, (-(210 ** 12), 1): 2, ((10 ** 15 - 1) ** 2, 1): 2, ((10 ** 15 - 1) ** 2, SIZE): 2,
            (2 ** 30 * 3 ** 42, 1): 2,
        }
        for number, times in told.items():
            with self.subTest(number):
                self.assertEqual(least_times(number), times)
                self.check_times(number)


class EqualCalls(unittest.TestCase):
    def test_they_return_equal_results(self):
        for number in small_numbers(5):
            for call in (first_split, least_times, lambda a: count_splits(a, 9), lambda a: next_split(a, 9), lambda a: nth_split(a, 9)):
                self.assertEqual(call(number), call(tuple(list(number))))


if __name__ == "__main__":
    unittest.main()
