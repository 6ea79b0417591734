import inspect
import re
import unittest
from fractions import Fraction
from math import gcd

from purepowers import checker
from purepowers.certificates import certify_always, certify_degree, certify_equation, certify_in
from purepowers.checker import accepts
from purepowers.roots import Root
from some_numbers import GREAT, SIZE, as_power, exponent_by_primes, is_small, small_numbers, some_powers, steps_by_primes
from some_roots import Going, exponents_of, some_roots, some_towers
from wrong_values import Stranger, nested, no_integers, no_numbers

TWO, THREE, SIX, CUBE = "2 of 2", "2 of 3", "2 of 6", "3 of 2"
GONE = {}


def is_integer(value, least, most):
    return value.__class__ is int and least <= value <= most


def number_told(text):
    """The fraction of the text of a number, or None, by a pattern."""
    if not isinstance(text, str) or not re.fullmatch(r"-?[1-9][0-9]*(/[1-9][0-9]*)?", text):
        return None
    top, _, bottom = text.partition("/")
    if bottom == "1" or gcd(int(top), int(bottom or 1)) != 1 or abs(int(top)) > SIZE or int(bottom or 1) > SIZE:
        return None
    return Fraction(text)


def root_told(text):
    """The degree and the fraction of the text of a root in least form, or None."""
    if not isinstance(text, str) or not re.fullmatch(r"[1-9][0-9]? of [0-9/]*", text):
        return None
    degree, number = int(text.split(" of ")[0]), number_told(text.split(" of ")[1])
    if degree > 60 or number is None:
        return None
    exponent = exponent_by_primes(pair_of(number))
    return (degree, number) if gcd(degree, exponent) == 1 else None


def pair_of(fraction):
    return (fraction.numerator, fraction.denominator)


def fraction_of(value):
    """The fraction of a number, or None."""
    if not isinstance(value, tuple) or len(value) != 2 or not all([one.__class__ is int for one in value]):
        return None
    top, bottom = value
    if top == 0 or not 1 <= bottom <= SIZE or abs(top) > SIZE or gcd(top, bottom) != 1:
        return None
    return Fraction(top, bottom)


def is_base(number, certificate):
    """Whether the certificate is the base and the exponent of the number."""
    if not isinstance(certificate, tuple) or len(certificate) != 2:
        return False
    base, exponent = fraction_of(certificate[0]), certificate[1]
    if base is None or not is_integer(exponent, 0, 200):
        return False
    if abs(number) == 1:
        return (base, exponent) == (1, 0)
    return base > 0 and exponent > 0 and base ** exponent == abs(number) and exponent_by_primes(pair_of(number)) == exponent


def is_shown(claim, certificate):
    """What the checker has to tell of claims about small numbers and roots of products of powers of 2, 3, 5 and 7."""
    if not isinstance(claim, tuple) or len(claim) not in (2, 3) or not isinstance(claim[0], str):
        return False
    if (claim[0], len(claim)) in (("splits", 3), ("whole", 3)):
        number = number_told(claim[1])
        return number is not None and is_integer(claim[2], 1, SIZE) and equation_is_shown(claim[0], number, claim[2], certificate)
    if (claim[0], len(claim)) == ("always", 2):
        number = number_told(claim[1])
        return number is not None and abs(number) != 1 and steps_by_primes(pair_of(number)) == [] and is_base(number, certificate)
    if (claim[0], len(claim)) == ("degree", 3):
        roots = roots_told(claim[1])
        return roots is not None and certificate == () and is_integer(claim[2], 1, SIZE) and gone_through(roots).degree == claim[2]
    if (claim[0], len(claim)) in (("in", 3), ("not in", 3)):
        root, roots = root_told(claim[1]), roots_told(claim[2])
        return root is not None and roots is not None and place_is_shown(claim[0], root, roots, certificate)
    return False


def equation_is_shown(word, number, n, certificate):
    if word == "whole":
        if abs(number) == 1:
            is_split = n > 1 if number == 1 else n & (n - 1) != 0
        else:
            is_split = any([n % step == 0 for step in steps_by_primes(pair_of(number))])
        return not is_split and is_base(number, certificate)
    if not isinstance(certificate, tuple) or len(certificate) not in (2, 3) or not isinstance(certificate[0], str):
        return False
    root = fraction_of(certificate[-1])
    if root is None:
        return False
    if len(certificate) == 2:
        return certificate[0] == "four" and n % 4 == 0 and -4 * root ** 4 == number
    exponent = certificate[1]
    if certificate[0] != "power" or not is_integer(exponent, 2, n) or n % exponent:
        return False
    if abs(root) == 1:
        return root ** (exponent % 2) == number
    return exponent < 200 and root ** exponent == number


def roots_told(texts):
    if not isinstance(texts, tuple) or not 1 <= len(texts) <= 5:
        return None
    roots = [root_told(text) for text in texts]
    return None if None in roots else [Root(pair_of(number), degree) for degree, number in roots]


def gone_through(roots):
    """Going through the products of powers of these roots, once for each tower."""
    key = tuple([str(root) for root in roots])
    if key not in GONE:
        GONE[key] = Going(roots)
    return GONE[key]


def place_is_shown(word, root, roots, certificate):
    degree, value = root
    if word == "not in":
        return certificate == () and gone_through(roots).told_by(Root(pair_of(value), degree)) is None
    if not isinstance(certificate, tuple) or len(certificate) != 2:
        return False
    number, powers = fraction_of(certificate[0]), certificate[1]
    if number is None or number < 0 or not isinstance(powers, tuple) or len(powers) != len(roots):
        return False
    if not all([is_integer(power, 0, 60) for power in powers]):
        return False
    for at in range(4):
        total = Fraction(exponents_of(certificate[0])[at])
        for one, power in zip(roots, powers):
            total += Fraction(power * exponents_of(one.number)[at], one.degree)
        if total != Fraction(exponents_of(pair_of(value))[at], degree):
            return False
    return number_of_primes(certificate[0])


def number_of_primes(number):
    """Whether the number has no other primes than 2, 3, 5 and 7."""
    value = Fraction(1)
    for prime, exponent in zip((2, 3, 5, 7), exponents_of(number)):
        value *= Fraction(prime) ** exponent
    return pair_of(value) == number


WORDS = ("splits", "whole", "always", "degree", "in", "not in", "power", "four", "", "Splits", "in ", "not  in")


def bent(value):
    """Values like this one, but for one place, at any depth."""
    if isinstance(value, tuple):
        found = [list(value), value + value[-1:], value + (1,), value + (None,), (), None, str(value), (value,)]
        found += [value[:-1], value[1:], value[::-1]] if value else [(0,), (1,), ("",)]
        for at, part in enumerate(value):
            found += [value[:at] + (other,) + value[at + 1:] for other in bent(part)]
        return found
    if isinstance(value, str):
        found = [word for word in WORDS if word != value] + [value.encode(), (value,), [value], None, 1]
        found += [value + " ", " " + value, "0" + value, "-" + value, value + "\n", value[:-1], value + "0", value.replace(" of ", " of  ")]
        return found + [value.replace(" of ", " "), "+" + value, value + "/1", value + "/2", value.upper(), value.removeprefix("-"), value.replace("2 of", "3 of")]
    found = [value + 1, value - 1, -value, 0, 1, 2, 2 * value, value // 2, value + SIZE, str(value), (value,), [value], None, True, False]
    return found + [Fraction(value), 4, 6, 12, 60, 61]


def right_pairs():
    """Claims of all forms with right certificates: of this package, and others."""
    found = []
    for number in ((8, 1), (-4, 1), (-9, 1), (64, 729), (-64, 1), (1, 1), (-1, 1), (2, 3), (-8, 27), (-1, 4), (16, 1), (-16, 1), (1, 32)):
        found += [certify_equation(number, n) for n in (1, 2, 3, 4, 6, 12, 20, 35)]
        if certify_always(number) is not None:
            found.append(certify_always(number))
    for tower in some_towers()[::3]:
        found.append(certify_degree(tower))
        found += [certify_in(root, tower) for root in some_roots()[::11]]
    found += [
        (("splits", "64", 12), ("power", 6, (2, 1))), (("splits", "64", 12), ("power", 6, (-2, 1))), (("splits", "64", 12), ("power", 2, (-8, 1))),
        (("splits", "64", 12), ("power", 3, (4, 1))), (("splits", "-4", 4), ("four", (-1, 1))), (("splits", "-64", 12), ("four", (-2, 1))),
        (("splits", "-64", 12), ("power", 3, (-4, 1))), (("splits", "1", 6), ("power", 6, (-1, 1))), (("splits", "1", 6), ("power", 3, (1, 1))),
        (("splits", "-1", 30), ("power", 15, (-1, 1))), (("splits", "16", 8), ("power", 4, (-2, 1))), (("in", SIX, (TWO, THREE)), ((1, 2), (3, 1))),
        (("in", "2 of 8", (TWO, TWO)), ((2, 1), (0, 1))), (("in", "2 of 8", (TWO, TWO)), ((1, 1), (1, 2))), (("in", "1 of 4", (TWO,)), ((4, 1), (0,))),
        (("in", "1 of 4", (TWO,)), ((1, 4), (8,))), (("in", "1 of 1", (TWO, THREE)), ((1, 2 ** 30 * 3 ** 30), (60, 60))),
        (("in", TWO, ("4 of 2", "1 of 5")), ((1, 625), (2, 4))), (("in", TWO, ("60 of 2",)), ((1, 1), (30,))),
    ]
    return found


class Signatures(unittest.TestCase):
    def test_place_and_names(self):
        self.assertEqual(accepts.__module__, "purepowers.checker")
        self.assertIs(checker.accepts, accepts)
        self.assertEqual(list(inspect.signature(accepts).parameters), ["claim", "certificate"])
        self.assertIs(accepts(certificate=((3, 1), 2), claim=("always", "-9")), True)

    def test_examples_of_the_document(self):
        self.assertEqual(
            [accepts(("splits", "64", 12), ("power", 6, (2, 1))), accepts(("splits", "-4", 4), ("four", (-1, 1))),
             accepts(("whole", "64", 35), ((8, 1), 2)), accepts(("in", "2 of 6", ("2 of 2", "2 of 3")), ((1, 1), (1, 1))),
             accepts(("in", "2 of 2", ("2 of 8",)), ((1, 2), (1,))), accepts(("always", "8"), ((2, 1), 3))],
            [True, True, False, True, True, False],
        )


class Accepting(unittest.TestCase):
    def check(self, claim, certificate):
        told = is_shown(claim, certificate)
        self.assertIs(accepts(claim, certificate), told, (claim, certificate))
        return told

    def test_right_ones(self):
        for claim, certificate in right_pairs():
            self.assertIs(accepts(claim, certificate), True, (claim, certificate))
            self.assertIs(is_shown(claim, certificate), True, (claim, certificate))

    def test_bent_certificates(self):
        many = 0
        for claim, certificate in right_pairs():
            for other in bent(certificate):
                many += self.check(claim, other)
        # Some of them are right ones of another kind.
        self.assertTrue(many > 0)

    def test_bent_claims(self):
        for claim, certificate in right_pairs():
            for other in bent(claim):
                self.check(other, certificate)

    def test_every_claim_with_every_certificate(self):
        pairs = right_pairs()
        for claim, _ in pairs[::2]:
            for _, certificate in pairs[::3]:
                self.check(claim, certificate)

    def test_opposite_claims(self):
        opposites = {"splits": "whole", "whole": "splits", "in": "not in", "not in": "in"}
        certificates = [certificate for _, certificate in right_pairs()]
        for claim, _ in right_pairs():
            if claim[0] in opposites:
                opposite = (opposites[claim[0]],) + claim[1:]
                self.assertFalse(any([accepts(opposite, certificate) for certificate in certificates]), opposite)

    def test_values_of_any_kind(self):
        claims = [claim for claim, _ in right_pairs()[::9]] + [("splits", "8", 6), ("always", "2"), ("in", SIX, (TWO, THREE)), ("not in", CUBE, (TWO,))]
        values = no_integers() + [nested(20), ("splits",), ("power", 3), ("four",), (Stranger(), Stranger()), (Stranger(), "8", 6), 0, -1]
        for value in values:
            for claim in claims:
                self.assertIs(accepts(claim, value), isinstance(value, tuple) and value == () and claim[0] in ("degree", "not in"))
            for other in values:
                self.assertIs(accepts(value, other), False)
        for value in values:
            for claim in (("splits", value, 6), ("splits", "8", value), (value, "8", 6), ("whole", value, 6), ("whole", "8", value), ("always", value),
                          (value, "8"), ("degree", value, 2), ("degree", (TWO,), value), ("degree", (value,), 2), ("in", value, (TWO,)), ("in", TWO, value),
                          ("in", TWO, (value,)), ("not in", value, (TWO,)), ("not in", TWO, value), ("not in", CUBE, (value, TWO)), (value, TWO, (TWO,))):
                for certificate in (("power", 3, (2, 1)), ((2, 1), 3), (), ((1, 1), (1,)), value):
                    self.assertIs(accepts(claim, certificate), False)
            for certificate in (("power", value, (2, 1)), ("power", 3, value), (value, 3, (2, 1)), ("power", 3, (value, 1)), ("power", 3, (2, value)),
                                ("four", value), (value, (1, 1)), ("power", 3, (2, 1), value)):
                # In the last place but one, 1 alone is a bottom.
                self.assertIs(accepts(("splits", "8", 6), certificate), False)
            for certificate in ((value, 1), ((2, 1), value), ((value, 1), 1), ((2, value), 1)):
                self.assertIs(accepts(("always", "2"), certificate), False)
            for certificate in ((value, (1, 1)), ((1, 1), value), ((1, 1), (value, 1)), ((1, 1), (1, value)), ((value, 1), (1, 1)), ((1, value), (1, 1))):
                self.assertIs(accepts(("in", SIX, (TWO, THREE)), certificate), False)

    def test_numbers_that_are_none(self):
        for value in no_numbers():
            self.assertIs(accepts(("splits", "8", 6), ("power", 3, value)), False)
            self.assertIs(accepts(("splits", "-4", 4), ("four", value)), False)
            self.assertIs(accepts(("always", "2"), (value, 1)), False)
            self.assertIs(accepts(("in", TWO, (TWO,)), (value, (1,))), False)


class Equations(unittest.TestCase):
    def test_all_small_ones(self):
        for number in small_numbers(9) + [(-4, 81), (64, 1), (-64, 1), (27, 8), (16, 25), (-1024, 1)]:
            text = str(Fraction(*number))
            root_numbers = small_numbers(4) + [(8, 1), (-8, 1)]
            for n in (1, 2, 3, 4, 6, 9, 12):
                for base in root_numbers:
                    for exponent in (0, 1, 2, 3, 4, 6, 12):
                        certificate = ("power", exponent, base)
                        self.assertIs(accepts(("splits", text, n), certificate), is_shown(("splits", text, n), certificate))
                    for certificate in (("four", base), (base, 1), (base, 2), (base, 0), (base, 3)):
                        for word in ("splits", "whole"):
                            self.assertIs(accepts((word, text, n), certificate), is_shown((word, text, n), certificate))

    def test_divisors_that_are_no_primes(self):
        self.assertIs(accepts(("splits", "64", 6), ("power", 6, (2, 1))), True)
        self.assertIs(accepts(("splits", "64", SIZE), ("power", 6, (2, 1))), False)
        self.assertIs(accepts(("splits", "1", SIZE), ("power", SIZE, (1, 1))), True)
        self.assertIs(accepts(("splits", "1", SIZE), ("power", SIZE, (-1, 1))), True)
        self.assertIs(accepts(("splits", "1", SIZE - 1), ("power", SIZE - 1, (-1, 1))), False)
        self.assertIs(accepts(("splits", "-1", SIZE - 1), ("power", SIZE - 1, (-1, 1))), True)
        self.assertIs(accepts(("splits", "-1", SIZE), ("power", SIZE, (-1, 1))), False)
        self.assertIs(accepts(("splits", "-1", SIZE), ("power", 5 ** 30, (-1, 1))), True)
        self.assertIs(accepts(("splits", str(2 ** 99), 99 * 10 ** 27), ("power", 99, (2, 1))), True)
        self.assertIs(accepts(("splits", str(2 ** 98), 98), ("power", 98, (-2, 1))), True)
        self.assertIs(accepts(("splits", "2", SIZE), ("power", SIZE, (2, 1))), False)
        self.assertIs(accepts(("splits", "2", 5), ("power", 1, (2, 1))), False)
        self.assertIs(accepts(("splits", "8", SIZE + 2), ("power", 3, (2, 1))), False)

    def test_fours_below_zero(self):
        self.assertIs(accepts(("splits", "-4", 4), ("four", (1, 1))), True)
        self.assertIs(accepts(("splits", "-4/81", 8), ("four", (-1, 3))), True)
        self.assertIs(accepts(("splits", "-1/4", 8), ("four", (-1, 2))), True)
        self.assertIs(accepts(("splits", "-4", 6), ("four", (-1, 1))), False)
        self.assertIs(accepts(("splits", "4", 4), ("four", (-1, 1))), False)

    def test_bases_and_exponents(self):
        for number in GREAT + ((2, 1), (-16, 1), (-(2 ** 64), 1)):
            claim, certificate = certify_equation(number, 1)
            self.assertEqual(claim, ("whole", str(Fraction(*number)), 1))
            self.assertIs(accepts(claim, certificate), True)
            (top, bottom), exponent = certificate
            for wrong in (((-top, bottom), exponent), ((top, bottom), exponent + 1), ((top, bottom), -exponent), (number, 1), ((bottom, top), exponent)):
                if wrong != certificate:
                    self.assertIs(accepts(claim, wrong), False)
        self.assertIs(accepts(("whole", "64", 35), ((2, 1), 6)), True)
        self.assertIs(accepts(("whole", "64", 35), ((4, 1), 3)), False)
        self.assertIs(accepts(("whole", "1", 1), ((1, 1), 0)), True)
        self.assertIs(accepts(("whole", "1", 1), ((1, 1), 1)), False)
        self.assertIs(accepts(("whole", "1", 1), ((1, 1), False)), False)
        self.assertIs(accepts(("always", "2"), ((2, 1), True)), False)
        self.assertIs(accepts(("always", "1"), ((1, 1), 0)), False)
        self.assertIs(accepts(("always", "-1"), ((1, 1), 0)), False)

    def test_texts(self):
        for text in ("08", "+8", " 8", "8 ", "8/1", "16/2", "8.0", "", "8\n", "-", "eight", "8/", "/8", "--8", "0", "-0", "0/8", "8/-1", str(SIZE * 10)):
            self.assertIs(accepts(("splits", text, 6), ("power", 3, (2, 1))), False)
            self.assertIs(accepts(("whole", text, 2), ((2, 1), 3)), False)
            self.assertIs(accepts(("always", text), ((2, 1), 3)), False)


class Towers(unittest.TestCase):
    def test_degrees(self):
        for tower in some_towers():
            texts, degree = tuple([str(root) for root in tower]), Going(tower).degree
            for told in (1, 2, 3, 4, 6, degree - 1, degree + 1, 2 * degree, degree):
                self.assertIs(accepts(("degree", texts, told), ()), told == degree)
            for wrong in (None, [], "", (1,), ((),), 0, False):
                self.assertIs(accepts(("degree", texts, degree), wrong), False)
            self.assertIs(accepts(("degree", texts, True), ()), False)
            self.assertIs(accepts(("degree", list(texts), degree), ()), False)

    def test_places(self):
        for tower in some_towers()[::2]:
            texts, going = tuple([str(root) for root in tower]), Going(tower)
            for root in some_roots()[::5]:
                told = going.told_by(root)
                self.assertIs(accepts(("not in", str(root), texts), ()), told is None)
                for number in ((1, 1), (2, 1), (1, 2), (3, 2)):
                    for powers in ((0,) * len(tower), (1,) * len(tower), (2,) + (0,) * (len(tower) - 1)):
                        certificate = (number, powers)
                        self.assertIs(accepts(("in", str(root), texts), certificate), is_shown(("in", str(root), texts), certificate))
                if told is not None:
                    self.assertIs(accepts(("in", str(root), texts), told), True)

    def test_exponents_at_their_bounds(self):
        self.assertIs(accepts(("in", "1 of 1", (TWO,)), ((1, 2 ** 30), (60,))), True)
        self.assertIs(accepts(("in", "1 of 1", (TWO,)), ((1, 2 ** 31), (62,))), False)
        self.assertIs(accepts(("in", TWO, (TWO,)), ((1, 2 ** 30), (61,))), False)
        self.assertIs(accepts(("in", TWO, (TWO,)), ((2, 1), (-1,))), False)
        self.assertIs(accepts(("in", TWO, (TWO,)), ((1, 1), (1, 0))), False)
        self.assertIs(accepts(("in", TWO, (TWO, THREE)), ((1, 1), (1,))), False)
        self.assertIs(accepts(("in", TWO, (TWO,)), ((1, 1), (True,))), False)
        self.assertIs(accepts(("in", TWO, (TWO,)), ((-1, 1), (1,))), False)
        self.assertIs(accepts(("in", TWO, (TWO,)), ((1, 1), [1])), False)

    def test_numbers_of_towers(self):
        for texts in ((), (TWO,) * 6, (TWO, None), TWO, None, [TWO], (TWO, "2 of 4"), ("02 of 2",), ("2  of 2",), ("2 of 2 ",), ("1 of -2",)):
            for degree in (1, 2, 4):
                self.assertIs(accepts(("degree", texts, degree), ()), False)
            self.assertIs(accepts(("in", TWO, texts), ((1, 1), (1,))), False)
            self.assertIs(accepts(("not in", CUBE, texts), ()), False)
        for text in ("2 of 4", "2of 2", "02 of 2", "2 of 02", "2", "of", None, 2, "-2 of 2", "61 of 2", "2 of -2", "2 of 2/1"):
            self.assertIs(accepts(("in", text, (TWO,)), ((1, 1), (1,))), False)
            self.assertIs(accepts(("not in", text, (TWO,)), ()), False)
        self.assertIs(accepts(("degree", (TWO,) * 5, 2), ()), True)

    def test_products_that_are_far_from_fractions(self):
        texts = ("59 of 3", "58 of 5", "57 of 7", "55 of 11", "53 of 13")
        for powers in ((0,) * 5, (1,) * 5, (60,) * 5, (59, 58, 57, 55, 53), (60, 0, 59, 0, 58)):
            self.assertIs(accepts(("in", "60 of 2", texts), ((1, 1), powers)), False)
        self.assertIs(accepts(("in", "1 of 1", texts), ((1, 3 * 5 * 7 * 11 * 13), (59, 58, 57, 55, 53))), True)
        self.assertIs(accepts(("not in", "60 of 2", texts), ()), True)
        self.assertIs(accepts(("degree", texts, 59 * 58 * 57 * 55 * 53), ()), True)

    def test_great_powers(self):
        texts = (f"1 of {SIZE}/{SIZE - 1}",) * 5
        self.assertIs(accepts(("in", "1 of 1", texts), ((1, 1), (60,) * 5)), False)
        self.assertIs(accepts(("in", f"1 of {SIZE}/{SIZE - 1}", texts), ((1, 1), (0, 0, 1, 0, 0))), True)
        self.assertIs(accepts(("in", "1 of 1", (f"60 of {SIZE}/{SIZE - 1}", f"60 of {SIZE - 1}/{SIZE}")), ((1, 1), (60, 60))), True)


class Written(unittest.TestCase):
    def test_of_this_package(self):
        powers = [as_power(base, n) for base, n in some_powers()[::7]]
        for number in small_numbers(7) + list(GREAT) + powers + [(-top, bottom) for top, bottom in powers]:
            self.assertTrue(is_small(number))
            for n in (1, 2, 3, 4, 12, 35, 97, 3 ** 62, SIZE - 1, SIZE):
                claim, certificate = certify_equation(number, n)
                self.assertIs(accepts(claim, certificate), True)
                opposite = ("whole" if claim[0] == "splits" else "splits",) + claim[1:]
                self.assertIs(accepts(opposite, certificate), False)


if __name__ == "__main__":
    unittest.main()
