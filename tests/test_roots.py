import inspect
import unittest
from fractions import Fraction
from math import gcd

from purepowers import roots
from purepowers.errors import InvalidDegree, InvalidNumber, InvalidText, NotARoot, TooGreat
from purepowers.roots import Root
from some_numbers import GREAT, SIZE, as_power, exponent_by_primes, is_small, small_numbers, some_powers
from some_roots import form_of, no_roots, product_vector, root_of, some_roots, vector_of
from wrong_values import assert_alone, assert_each_argument, assert_told, no_degrees, no_integers, no_numbers, raised_by, told_as_given

POSITIVE = [number for number in small_numbers(14) if number[0] > 0]
BELOW_ZERO = [number for number in small_numbers(4) + list(GREAT) if number[0] < 0]
DEGREES = (1, 2, 3, 4, 5, 6, 12, 30, 59, 60)


def power_of_root(root, n):
    """The power of the root with this multiple of its degree, as a fraction."""
    return Fraction(*root.number) ** (n // root.degree)


class Signatures(unittest.TestCase):
    def test_places(self):
        self.assertEqual(Root.__module__, "purepowers.roots")
        self.assertIs(roots.Root, Root)
        for name in ("read", "times", "raised", "is_less", "cut", "degree", "number", "is_fraction", "__str__", "__repr__", "__eq__"):
            self.assertIn(name, vars(Root))

    def test_names_and_kinds_of_parameters(self):
        root = Root((2, 1), 2)
        told = ((Root, ["number", "n"]), (Root.read, ["text"]), (root.times, ["other"]), (root.raised, ["many"]),
                (root.is_less, ["other"]), (root.cut, ["places"]))
        for call, names in told:
            parameters = inspect.signature(call).parameters.values()
            self.assertEqual([one.name for one in parameters], names)
            self.assertEqual({one.kind for one in parameters}, {inspect.Parameter.POSITIONAL_OR_KEYWORD})
            self.assertEqual({one.default for one in parameters}, {inspect.Parameter.empty})

    def test_by_name(self):
        two, three = Root(number=(2, 1), n=2), Root(n=2, number=(3, 1))
        self.assertEqual(two, Root((2, 1), n=2))
        self.assertEqual(two.times(other=three), Root((6, 1), 2))
        self.assertEqual(two.raised(many=2), Root((2, 1), 1))
        self.assertIs(two.is_less(other=three), True)
        self.assertEqual(two.cut(places=3), "1.414")
        self.assertEqual(Root.read(text="2 of 8"), Root((8, 1), 2))

    def test_examples_of_the_document(self):
        two, three, six, cube = Root((2, 1), 2), Root((3, 1), 2), Root((6, 1), 2), Root((2, 1), 3)
        self.assertEqual(
            [str(Root((64, 1), 4)), str(Root((4, 9), 2)), str(two.times(cube)), str(two.raised(-3)), two.times(three) == six,
             two.is_less(Root((3, 1), 3)), Root.read("2 of 8").degree, two.times(two).is_fraction, repr(cube), two.cut(3),
             Root((1, 8), 3).cut(2), Root((10 ** 30, 1), 60).cut(0), Root((1, 3), 1).cut(5)],
            ["2 of 8", "1 of 2/3", "6 of 32", "2 of 1/8", True, True, 2, True, "Root of degree 3", "1.414", "0.50", "3", "0.33333"],
        )
        self.assertEqual(raised_by(self, InvalidText, Root.read, "2 of 4").given, "2 of 4")


class WrongArguments(unittest.TestCase):
    def test_of_the_class(self):
        wrong = told_as_given(no_numbers() + BELOW_ZERO)
        degree = (6, InvalidDegree, "given", told_as_given(no_degrees(1, 60)))
        assert_each_argument(self, Root, ((8, 1), InvalidNumber, "given", wrong), degree)

    def test_bounds_of_the_degree(self):
        for number in ((1, 1), (2, 1), (SIZE, 1), (1, SIZE), (SIZE - 1, SIZE)):
            self.assertTrue(1 <= Root(number, 1).degree <= Root(number, 60).degree <= 60)
            for wrong in (0, 61, -1, True):
                assert_told(self, InvalidDegree, wrong, Root, number, wrong)

    def test_of_the_methods(self):
        for root in (Root((2, 1), 2), Root((1, 1), 1), Root((SIZE, 1), 60), Root((SIZE, SIZE - 1), 60)):
            assert_each_argument(self, root.times, (root.raised(-1), NotARoot, "given", told_as_given(no_roots())))
            assert_each_argument(self, root.is_less, (root, NotARoot, "given", told_as_given(no_roots())))
            assert_each_argument(self, root.raised, (1, InvalidDegree, "given", told_as_given(no_degrees(-20, 20))))
            assert_each_argument(self, root.cut, (1, InvalidDegree, "given", told_as_given(no_degrees(0, 30))))

    def test_wrong_arguments_come_ahead_of_too_great_roots(self):
        root = Root((SIZE, 1), 1)
        for wrong in (21, -21, True, None):
            assert_told(self, InvalidDegree, wrong, root.raised, wrong)
        assert_told(self, NotARoot, "60 of 2", root.times, "60 of 2")


class LeastForms(unittest.TestCase):
    def check_form(self, number, n):
        root = Root(number, n)
        self.assertEqual(power_of_root(root, n), Fraction(*number), (number, n))
        self.assertEqual(n % root.degree, 0)
        # No lesser degree would do.
        if number != (1, 1):
            self.assertEqual(gcd(root.degree, exponent_by_primes(root.number)), 1, (number, n))
        else:
            self.assertEqual((root.degree, root.number), (1, (1, 1)))
        self.assertIs(root.is_fraction, root.degree == 1)
        self.assertEqual(str(root), f"{root.degree} of {Fraction(*root.number)}")
        self.assertEqual(repr(root), f"Root of degree {root.degree}")
        self.assertEqual(root, Root(root.number, root.degree))

    def test_small_numbers(self):
        for number in POSITIVE:
            for n in range(1, 61):
                self.check_form(number, n)

    def test_powers(self):
        for base, exponent in some_powers():
            if max(base) < 13:
                for n in DEGREES:
                    self.check_form(as_power(base, exponent), n)

    def test_all_degrees_of_one_number(self):
        for n in range(1, 61):
            common = gcd(n, 60)
            root = Root((2 ** 60, 3 ** 60), n)
            self.assertEqual((root.degree, root.number), (n // common, as_power((2, 3), 60 // common)))
            self.assertEqual(Root((1, 1), n).number, (1, 1))
            self.assertEqual(Root((1, 1), n).degree, 1)
            self.assertEqual((Root((2, 1), n).degree, Root((2, 1), n).number), (n, (2, 1)))

    def test_greatest_numbers(self):
        told = {
            ((SIZE, 1), 60): "2 of 10", ((SIZE, 1), 30): "1 of 10", ((SIZE, 1), 7): f"7 of {SIZE}", ((1, SIZE), 60): "2 of 1/10",
            ((SIZE - 1, SIZE), 60): f"60 of {SIZE - 1}/{SIZE}", ((SIZE, SIZE - 1), 2): f"2 of {SIZE}/{SIZE - 1}",
            ((2 ** 99, 3 ** 62), 60): f"60 of {2 ** 99}/{3 ** 62}", ((2 ** 99, 1), 60): f"20 of {2 ** 33}", ((2 ** 97, 1), 59): f"59 of {2 ** 97}",
            ((2 ** 59, 1), 59): "1 of 2", ((1, 2 ** 59), 59): "1 of 1/2", ((2 ** 59, 1), 60): f"60 of {2 ** 59}", ((SIZE, 1), 1): f"1 of {SIZE}",
        }
        for (number, n), text in told.items():
            with self.subTest(number, n=n):
                self.assertEqual(str(Root(number, n)), text)
                self.assertEqual(Root.read(text), Root(number, n))

    def test_kinds_of_what_is_returned(self):
        root = Root((8, 27), 6)
        self.assertEqual([one.__class__ for one in (root.degree, root.number, *root.number, root.is_fraction)], [int, tuple, int, int, bool])
        self.assertEqual([one.__class__ for one in (str(root), repr(root), root.cut(2), root.is_less(root))], [str, str, str, bool])

    def test_roots_do_not_change(self):
        root, other = Root((2, 1), 2), Root((3, 1), 3)
        before = (str(root), str(other))
        for name in ("degree", "number", "is_fraction"):
            with self.assertRaises(AttributeError):
                setattr(root, name, 1)
        root.times(other)
        root.raised(5)
        root.is_less(other)
        root.cut(9)
        self.assertEqual((str(root), str(other)), before)


class Equality(unittest.TestCase):
    def test_same_values(self):
        for number in POSITIVE[:40]:
            for power in (2, 3, 4, 5):
                for n in range(1, 60 // power + 1):
                    one, other = Root(number, n), Root(as_power(number, power), power * n)
                    self.assertTrue(one == other)
                    self.assertFalse(one != other)
        self.assertEqual(Root((64, 1), 4), Root((8, 1), 2))
        self.assertEqual(Root((4, 1), 2), Root((2, 1), 1))
        self.assertEqual(Root((1, 1), 60), Root((1, 1), 1))

    def test_other_values(self):
        roots_by_value = {}
        for root in some_roots():
            roots_by_value.setdefault(vector_of(root), []).append(root)
        groups = list(roots_by_value.values())
        for at, group in enumerate(groups):
            for one in group:
                self.assertTrue(all([one == other and not one != other for other in group]))
                for others in groups[at + 1:]:
                    self.assertFalse(one == others[0])
                    self.assertTrue(one != others[0])

    def test_things_that_are_no_roots(self):
        for root in (Root((2, 1), 2), Root((1, 1), 1), Root((4, 1), 2)):
            for value in no_roots() + [str(root), root.number, root.degree, (root.degree, root.number), 1, 2, (2, 1), "1 of 2"]:
                self.assertFalse(root == value)
                self.assertTrue(root != value)
            self.assertTrue(root == root)
            self.assertFalse(root != root)
            self.assertTrue(root)
            self.assertIn(root, (None, 2, root))
            assert_alone(self, root, Root((5, 7), 3))


class Reading(unittest.TestCase):
    def test_texts_are_read_back(self):
        for number in POSITIVE:
            for n in DEGREES:
                root = Root(number, n)
                read = Root.read(str(root))
                self.assertEqual((read.degree, read.number), (root.degree, root.number))
                self.assertIs(read.__class__, Root)

    def test_everything_else(self):
        texts = [
            "", " ", "2", "of", " of ", "2 of", "of 2", "2 of ", " of 2", "2of2", "2 of2", "2of 2", "2  of 2", "2 of  2", " 2 of 2", "2 of 2 ",
            "2 of 2\n", "\n2 of 2", "2\tof 2", "2 of\n2", "2 Of 2", "2 OF 2", "2 off 2", "2 o 2", "2 of of 2", "2 of 2 of 2", "2 2 of 2",
            "02 of 2", "2 of 02", "+2 of 2", "2 of +2", "-2 of 2", "2 of -2", "-2 of -2", "2 of 2/1", "2 of 2/-3", "2 of 1/02", "2 of 2/",
            "2 of /2", "2 of 4/6", "2 of 2 /3", "2 of 2/ 3", "2 of 4", "4 of 4", "2 of 1", "1 of 0", "2 of 0", "0 of 2", "0 of 1", "61 of 2",
            "60 of 4", "6 of 8", "3 of 8/27", "1 of 2/4", "1 of 4/2", "100 of 2", "2.0 of 2", "2 of 2.0", "two of 2", "2 of two", "2 of 2e1",
            "1_0 of 2", "2 of 1_0", f"2 of {SIZE + 1}", f"2 of 1/{SIZE + 1}", f"2 of {10 ** 100 + 1}", "9" * 3000 + " of 2", "2 of " + "9" * 3900,
            "2 of 2;", "2 of 2; 3 of 2", "Root of degree 2", "2/3 of 2", "1", "1 of", "-1 of 1", "1 of -1", "-0 of 2", "1 of -0", "2 of 2/0",
        ]
        for text in texts:
            with self.subTest(text):
                assert_told(self, InvalidText, text, Root.read, text)
                assert_told(self, InvalidText, text, Root.read, text=text)
        for value in no_integers() + [b"2 of 2", ["2 of 2"], ("2 of 2",), {"2 of 2": 1}, Root((2, 1), 2), Root, 2, (2, (2, 1))]:
            assert_told(self, InvalidText, value, Root.read, value)

    def test_texts_of_other_forms(self):
        for number in POSITIVE[:60]:
            for n in range(1, 25):
                text = f"{n} of {Fraction(*number)}"
                if str(Root(number, n)) == text:
                    self.assertEqual(Root.read(text), Root(number, n))
                else:
                    assert_told(self, InvalidText, text, Root.read, text)

    def test_digits_of_other_scripts(self):
        for text in ("\u0662 of 2", "2 of \u0662", "\u00b2 of 2", "2 of \uff12"):
            assert_told(self, InvalidText, text, Root.read, text)


class Products(unittest.TestCase):
    def check_product(self, one, other):
        """Against the exponents of the primes up to 7."""
        degree, number = form_of(product_vector((vector_of(one), vector_of(other)), (1, 1)))
        if degree > 60:
            self.assertEqual(raised_by(self, TooGreat, one.times, other).given, degree)
        elif not is_small(number):
            self.assertEqual(raised_by(self, TooGreat, one.times, other).given, max(number))
        else:
            root = one.times(other)
            self.assertEqual((root.degree, root.number), (degree, number))

    def test_against_exponents_of_small_primes(self):
        found = some_roots()
        great = [Root((2 ** 30, 3 ** 40), 1), Root((10 ** 29, 7 ** 35), 8), Root((3 ** 61, 1), 60), Root((1, 2 ** 99), 59), Root((6 ** 35, 1), 37)]
        for one in found + great:
            for other in found[::3] + great:
                self.check_product(one, other)

    def test_with_one_and_with_the_opposite_power(self):
        one = Root((1, 1), 5)
        for root in some_roots() + [Root((SIZE, SIZE - 1), 60), Root((SIZE, 1), 1)]:
            self.assertEqual(root.times(one), root)
            self.assertEqual(one.times(root), root)
            self.assertEqual(root.times(root.raised(-1)), one)

    def test_degree_too_great(self):
        told = ((8, 9, 72), (7, 9, 63), (59, 60, 3540), (2, 59, 118), (60, 7, 420), (31, 2, 62), (60, 59, 3540))
        for one, other, degree in told:
            self.assertEqual(raised_by(self, TooGreat, Root((2, 1), one).times, Root((3, 1), other)).given, degree)
            self.assertEqual(raised_by(self, TooGreat, Root((2, 1), one).times, other=Root((2, 1), other)).given, degree)
        # Also if top and bottom would be too great.
        self.assertEqual(raised_by(self, TooGreat, Root((SIZE - 1, SIZE), 60).times, Root((SIZE - 3, SIZE), 7)).given, 420)
        self.assertEqual(Root((2, 1), 12).times(Root((2, 1), 20)).degree, 15)
        self.assertEqual(Root((2, 1), 40).times(Root((2, 1), 60)).degree, 24)

    def test_number_too_great(self):
        told = [
            (Root((SIZE, 1), 1), Root((2, 1), 1), 2 * SIZE), (Root((1, SIZE), 1), Root((1, 3), 1), 3 * SIZE),
            (Root((SIZE, 7), 1), Root((2, SIZE - 11), 1), 7 * (SIZE - 11)), (Root((2, SIZE - 11), 1), Root((SIZE, 7), 1), 7 * (SIZE - 11)),
            (Root((10 ** 29 + 1, 1), 2), Root((13, 1), 2), 13 * 10 ** 29 + 13), (Root((2, 1), 2), Root((10 ** 15 + 1, 1), 1), 2 * (10 ** 15 + 1) ** 2),
            (Root((1, 2), 2), Root((1, 10 ** 15 + 1), 1), 2 * (10 ** 15 + 1) ** 2), (Root((3, 1), 60), Root((4, 1), 1), 3 * 4 ** 60),
            (Root((1, 3), 60), Root((1, 4), 1), 3 * 4 ** 60),
            (Root((3, 1), 2), Root((SIZE // 2 + 1, 1), 2), 3 * (SIZE // 2 + 1)), (Root((101, 1), 1), Root((9900990099009900990099009901, 1), 1), SIZE + 1),
            (Root((1, 101), 1), Root((1, 9900990099009900990099009901), 1), SIZE + 1),
        ]
        for one, other, given in told:
            with self.subTest(str(one), other=str(other)):
                self.assertEqual(raised_by(self, TooGreat, one.times, other).given, given)
                self.assertEqual(raised_by(self, TooGreat, other.times, one).given, given)

    def test_up_to_the_bounds(self):
        self.assertEqual(Root((3, 1), 2).times(Root((SIZE // 4, 3), 2)), Root((SIZE // 4, 1), 2))
        self.assertEqual(Root((11, 1), 3).times(Root((SIZE, 11), 3)), Root((SIZE, 1), 3))
        self.assertEqual(Root((2, 1), 1).times(Root((SIZE // 2, 1), 1)), Root((SIZE, 1), 1))
        self.assertEqual(Root((1, 2), 1).times(Root((1, SIZE // 2), 1)), Root((1, SIZE), 1))
        self.assertEqual(Root((10, 1), 2).times(Root((10 ** 14, 1), 1)), Root((10 ** 29, 1), 2))
        self.assertEqual(Root((2, 1), 4).times(Root((3, 1), 15)).degree, 60)
        self.assertEqual(Root((SIZE, SIZE - 1), 60).times(Root((SIZE - 1, SIZE), 60)), Root((1, 1), 1))

    def test_numbers_with_great_divisors(self):
        # Three integers without a common divisor, of ten figures each.
        one, other, third = 9999999967, 9999999943, 9999999929
        root = Root((one * other, third), 2).times(Root((one * third, other), 2))
        self.assertEqual((root.degree, root.number), (1, (one, 1)))
        root = Root((one * other, third), 3).times(Root((other, one * third), 3))
        self.assertEqual((root.degree, root.number), (3, (other ** 2, third ** 2)))
        root = Root((one * other * third, 1), 6).times(Root((one, other * third), 2))
        self.assertEqual((root.degree, root.number), (3, (one ** 2, other * third)))


class Powers(unittest.TestCase):
    def test_against_exponents_of_small_primes(self):
        for root in some_roots():
            for many in (-20, -7, -6, -5, -4, -3, -2, -1, 0, 1, 2, 3, 4, 5, 6, 8, 12, 15, 20):
                degree, number = form_of(product_vector([vector_of(root)], [many]))
                if is_small(number):
                    power = root.raised(many)
                    self.assertEqual((power.degree, power.number), (degree, number), (str(root), many))
                else:
                    self.assertEqual(raised_by(self, TooGreat, root.raised, many).given, max(number))

    def test_zero_and_one(self):
        for root in some_roots() + [Root((SIZE, SIZE - 1), 60)]:
            self.assertEqual(root.raised(0), Root((1, 1), 1))
            self.assertEqual(root.raised(1), root)
            self.assertEqual(root.raised(-1).number, root.number[::-1])
            self.assertEqual(root.raised(-1).degree, root.degree)

    def test_products_of_powers(self):
        for root in (Root((2, 1), 7), Root((2, 3), 20), Root((1, 5), 11), Root((10, 1), 60), Root((3, 1), 1)):
            power = Root((1, 1), 1)
            for many in range(0, 21):
                self.assertEqual(root.raised(many), power)
                self.assertEqual(root.raised(-many), power.raised(-1))
                power = power.times(root)

    def test_too_great(self):
        told = [
            (Root((SIZE, 1), 1), 2, 10 ** 60), (Root((SIZE, 1), 1), -2, 10 ** 60), (Root((1, SIZE), 1), 20, 10 ** 600),
            (Root((100, 1), 1), 16, 10 ** 32), (Root((SIZE - 1, SIZE), 7), 2, 10 ** 60), (Root((SIZE, SIZE - 1), 7), -2, 10 ** 60),
            (Root((SIZE - 1, 1), 60), 19, (SIZE - 1) ** 19), (Root((32, 1), 1), 20, 2 ** 100), (Root((1, 32), 1), -20, 2 ** 100),
            (Root((SIZE - 1, 1), 60), 8, (SIZE - 1) ** 2), (Root((SIZE - 1, 1), 60), -8, (SIZE - 1) ** 2), (Root((10 ** 15 + 1, 1), 3), 2, (10 ** 15 + 1) ** 2),
        ]
        for root, many, given in told:
            with self.subTest(str(root), many=many):
                self.assertEqual(raised_by(self, TooGreat, root.raised, many).given, given)
                self.assertEqual(raised_by(self, TooGreat, root.raised, many=many).given, given)

    def test_up_to_the_bounds(self):
        self.assertEqual(str(Root((100, 1), 1).raised(15)), f"1 of {SIZE}")
        self.assertEqual(str(Root((1, 100), 1).raised(-15)), f"1 of {SIZE}")
        self.assertEqual(str(Root((31, 1), 1).raised(20)), f"1 of {31 ** 20}")
        self.assertEqual(str(Root((2, 3), 1).raised(20)), f"1 of {2 ** 20}/{3 ** 20}")
        self.assertEqual(str(Root((10 ** 15, 1), 3).raised(2)), "1 of 10000000000")
        self.assertEqual(str(Root((10 ** 15 - 1, 1), 3).raised(2)), f"3 of {(10 ** 15 - 1) ** 2}")
        self.assertEqual(str(Root((SIZE - 1, SIZE), 7).raised(7)), f"1 of {SIZE - 1}/{SIZE}")
        self.assertEqual(str(Root((SIZE - 1, SIZE), 60).raised(-20)), f"3 of {SIZE}/{SIZE - 1}")
        self.assertEqual(str(Root((SIZE - 1, SIZE), 60).raised(-15)), f"4 of {SIZE}/{SIZE - 1}")


class Sizes(unittest.TestCase):
    @staticmethod
    def is_less(one, other):
        """By powers of both that are fractions."""
        n = one.degree * other.degree
        return power_of_root(one, n) < power_of_root(other, n)

    def check_both_ways(self, one, other):
        self.assertIs(one.is_less(other), self.is_less(one, other), (str(one), str(other)))
        self.assertIs(other.is_less(one), self.is_less(other, one), (str(one), str(other)))

    def test_some_roots(self):
        found = some_roots()
        for one in found:
            for other in found[::2]:
                self.check_both_ways(one, other)

    def test_equal_ones(self):
        for root in some_roots() + [Root((SIZE, SIZE - 1), 60), Root((SIZE, 1), 60)]:
            self.assertIs(root.is_less(root), False)
            self.assertIs(root.is_less(Root(root.number, root.degree)), False)
        self.assertIs(Root((64, 1), 4).is_less(Root((8, 1), 2)), False)
        self.assertIs(Root((8, 1), 2).is_less(Root((64, 1), 4)), False)

    def test_near_ones(self):
        pairs = [
            (Root((SIZE, 1), 59), Root((SIZE - 1, 1), 59)), (Root((SIZE, SIZE - 1), 60), Root((1, 1), 1)),
            (Root((SIZE - 1, SIZE), 60), Root((1, 1), 1)), (Root((SIZE, SIZE - 1), 60), Root((SIZE, SIZE - 1), 59)),
            (Root((SIZE - 1, SIZE), 60), Root((SIZE - 1, SIZE), 59)), (Root((2 ** 84, 1), 59), Root((3 ** 53, 1), 59)),
            (Root((2, 1), 53), Root((3, 1), 60)), (Root((SIZE, SIZE - 1), 60), Root((SIZE - 1, SIZE - 2), 60)),
            (Root((9, 8), 2), Root((1061, 1000), 1)), (Root((2, 1), 2), Root((7, 5), 1)),
            (Root((2, 1), 2), Root((367296043199, 259717522849), 1)), (Root((3, 1), 3), Root((2, 1), 2)), (Root((10, 1), 60), Root((3, 1), 29)),
        ]
        for one, other in pairs:
            self.check_both_ways(one, other)
            self.assertIs(one.is_less(other), not other.is_less(one))


class Decimals(unittest.TestCase):
    def check_cut(self, root, places):
        text = root.cut(places)
        if places == 0:
            self.assertRegex(text, r"\A(0|[1-9][0-9]*)\Z")
        else:
            self.assertRegex(text, r"\A(0|[1-9][0-9]*)\.[0-9]{%d}\Z" % places)
        value = Fraction(text)
        above = value + Fraction(1, 10 ** places)
        self.assertTrue(value ** root.degree <= Fraction(*root.number) < above ** root.degree, (str(root), places))

    def test_some_roots(self):
        for root in some_roots():
            for places in (0, 1, 2, 3, 10, 29, 30):
                self.check_cut(root, places)

    def test_all_places(self):
        for root in (Root((2, 1), 2), Root((2, 1), 1), Root((1, 3), 1), Root((1, 1), 1), Root((1, SIZE), 7), Root((SIZE, 1), 7)):
            for places in range(0, 31):
                self.check_cut(root, places)

    def test_great_roots_and_small_ones(self):
        roots_told = [
            Root((SIZE, 1), 1), Root((1, SIZE), 1), Root((SIZE - 1, SIZE), 1), Root((SIZE, SIZE - 1), 1), Root((SIZE - 1, 1), 2),
            Root((1, SIZE - 1), 2), Root((SIZE, SIZE - 1), 60), Root((SIZE - 1, SIZE), 60), Root((SIZE - 1, 1), 60), Root((1, SIZE - 1), 60),
            Root((SIZE - 1, SIZE), 59), Root((10 ** 30 - 1, 10 ** 15 + 3), 31), Root((1, SIZE - 1), 3), Root((2 ** 99, 3 ** 62), 47),
        ]
        for root in roots_told:
            for places in (0, 1, 7, 15, 30):
                self.check_cut(root, places)

    def test_told_ones(self):
        told = [
            (Root((2, 1), 2), 30, "1.414213562373095048801688724209"), (Root((3, 1), 3), 20, "1.44224957030740838232"),
            (Root((1, SIZE), 1), 30, "0." + "0" * 29 + "1"), (Root((1, SIZE), 1), 29, "0." + "0" * 29), (Root((SIZE, 1), 1), 1, f"{SIZE}.0"),
            (Root((1, 2), 1), 0, "0"), (Root((1, 2), 1), 1, "0.5"), (Root((99, 100), 1), 1, "0.9"), (Root((99, 100), 1), 0, "0"),
            (Root((1, 1), 1), 2, "1.00"), (Root((SIZE - 1, SIZE), 60), 30, "0." + "9" * 30), (Root((SIZE, SIZE - 1), 60), 30, "1." + "0" * 30),
            (Root((10, 1), 1), 0, "10"), (Root((100, 1), 2), 3, "10.000"),
        ]
        for root, places, text in told:
            with self.subTest(str(root), places=places):
                self.assertEqual(root.cut(places), text)


class EqualCalls(unittest.TestCase):
    def test_they_return_equal_results(self):
        for number in POSITIVE[:30]:
            one, other = Root(number, 6), Root(tuple(list(number)), 6)
            self.assertEqual(one, other)
            for call in (str, repr, lambda root: root.raised(2), lambda root: root.times(one), lambda root: root.cut(4)):
                self.assertEqual(call(one), call(other))
                self.assertEqual(call(one), call(one))

    def test_what_is_returned_may_be_passed(self):
        for root in some_roots():
            self.assertEqual(Root(root.number, root.degree), root)
            self.assertEqual(root_of(vector_of(root)), root)
            self.assertEqual(root.times(root.raised(1)), root.raised(2))


if __name__ == "__main__":
    unittest.main()
