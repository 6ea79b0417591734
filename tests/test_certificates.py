import unittest
from fractions import Fraction

from purepowers import certificates
from purepowers.certificates import certify_always, certify_degree, certify_equation, certify_in
from purepowers.checker import accepts
from purepowers.errors import InvalidDegree, InvalidNumber, InvalidRoots, NotARoot, TooGreat
from purepowers.numbers import base_of
from purepowers.roots import Root
from purepowers.splitting import is_always_whole, splits
from purepowers.towers import degree_of, told_by
from some_numbers import GREAT, SIZE, as_power, small_numbers, some_powers
from some_roots import no_roots, no_towers, some_roots, some_towers
from wrong_values import assert_each_argument, assert_told, no_degrees, no_numbers, raised_by, told_as_given

TWO, CUBE = Root((2, 1), 2), Root((2, 1), 3)
OPPOSITES = {"splits": "whole", "whole": "splits", "in": "not in", "not in": "in"}


def many_numbers():
    powers = [as_power(base, n) for base, n in some_powers()]
    return small_numbers(12) + list(GREAT) + powers + [(-top, bottom) for top, bottom in powers]


class Signatures(unittest.TestCase):
    def test_places(self):
        for name in ("certify_equation", "certify_always", "certify_degree", "certify_in"):
            self.assertEqual(getattr(certificates, name).__module__, "purepowers.certificates")

    def test_by_name(self):
        self.assertEqual(certify_equation(n=4, number=(-9, 1)), (("whole", "-9", 4), ((3, 1), 2)))
        self.assertEqual(certify_always(number=(-9, 1)), (("always", "-9"), ((3, 1), 2)))
        self.assertEqual(certify_degree(roots=(TWO, CUBE)), (("degree", ("2 of 2", "3 of 2"), 6), ()))
        self.assertEqual(certify_in(roots=(TWO,), root=CUBE), (("not in", "3 of 2", ("2 of 2",)), ()))

    def test_examples_of_the_document(self):
        self.assertEqual(
            [certify_equation((8, 1), 6)[0], certify_equation((-9, 1), 4), certify_always((-9, 1)), certify_always((4, 1)),
             certify_degree((TWO, CUBE)), certify_in(CUBE, (TWO,))],
            [("splits", "8", 6), (("whole", "-9", 4), ((3, 1), 2)), (("always", "-9"), ((3, 1), 2)), None,
             (("degree", ("2 of 2", "3 of 2"), 6), ()), (("not in", "3 of 2", ("2 of 2",)), ())],
        )


class WrongArguments(unittest.TestCase):
    def test_each_argument(self):
        number = ((8, 1), InvalidNumber, "given", told_as_given(no_numbers()))
        degree = (6, InvalidDegree, "given", told_as_given(no_degrees()))
        root = (TWO, NotARoot, "given", told_as_given(no_roots()))
        roots = ((TWO, CUBE), InvalidRoots, "index", no_towers())
        assert_each_argument(self, certify_equation, number, degree)
        assert_each_argument(self, certify_always, number)
        assert_each_argument(self, certify_degree, roots)
        assert_each_argument(self, certify_in, root, roots)

    def test_too_great(self):
        tower = (Root((2 * (10 ** 9 + 7) ** 3, 1), 3), Root((3 * (10 ** 9 + 9) ** 3, 1), 3))
        given = ((10 ** 9 + 7) * (10 ** 9 + 9)) ** 2
        self.assertEqual(raised_by(self, TooGreat, certify_in, Root((36, 1), 3), tower).given, given)
        self.assertEqual(raised_by(self, TooGreat, certify_in, roots=tower, root=Root((36, 1), 3)).given, given)
        self.assertEqual(certify_in(Root((36, 5), 3), tower)[0][0], "not in")
        assert_told(self, NotARoot, None, certify_in, None, tower)


class Equations(unittest.TestCase):
    def test_claims_and_certificates(self):
        for number in many_numbers():
            for n in (1, 2, 3, 4, 5, 6, 8, 12, 35, 60, 97, 1000, 10 ** 6 + 1, 3 ** 62, 2 ** 99, SIZE - 1, SIZE):
                claim, certificate = certify_equation(number, n)
                self.assertEqual(claim, ("splits" if splits(number, n) else "whole", str(Fraction(*number)), n))
                self.assertIs(accepts(claim, certificate), True, (claim, certificate))
                self.assertIs(accepts((OPPOSITES[claim[0]],) + claim[1:], certificate), False)
                if claim[0] == "whole":
                    self.assertEqual(certificate, base_of(number))

    def test_one(self):
        for n in (2, 3, 4, 97, 999999999999999999999999999989, SIZE - 1, SIZE, 2 ** 99):
            claim, certificate = certify_equation((1, 1), n)
            self.assertEqual(claim, ("splits", "1", n))
            self.assertIs(accepts(claim, certificate), True)
            claim, certificate = certify_equation((-1, 1), n)
            self.assertEqual(claim[0], "whole" if n & (n - 1) == 0 else "splits")
            self.assertIs(accepts(claim, certificate), True)
        self.assertEqual(certify_equation((1, 1), 1), (("whole", "1", 1), ((1, 1), 0)))
        self.assertEqual(certify_equation((-1, 1), 4), (("whole", "-1", 4), ((1, 1), 0)))

    def test_fours(self):
        for number in ((-4, 1), (-4, 81), (-1, 4), (-64, 1), (-324, 1), (-4 * 10 ** 28, 1), (-1, 4 * 10 ** 28), (-4 * 22360679 ** 4, 1)):
            for n in (4, 8, 20, 44, SIZE, 2 ** 99):
                claim, certificate = certify_equation(number, n)
                self.assertEqual(claim[0], "splits")
                self.assertIs(accepts(claim, certificate), True)


class AlwaysWhole(unittest.TestCase):
    def test_claims_and_certificates(self):
        for number in many_numbers():
            told = certify_always(number)
            if is_always_whole(number):
                self.assertEqual(told, (("always", str(Fraction(*number))), base_of(number)))
                self.assertIs(accepts(*told), True)
            else:
                self.assertIsNone(told)
                self.assertIs(accepts(("always", str(Fraction(*number))), base_of(number)), False)


class Towers(unittest.TestCase):
    def test_degrees(self):
        for tower in some_towers():
            claim, certificate = certify_degree(tower)
            self.assertEqual(claim, ("degree", tuple([str(root) for root in tower]), degree_of(tower)))
            self.assertEqual(certificate, ())
            self.assertIs(accepts(claim, certificate), True)

    def test_places(self):
        for tower in some_towers():
            for root in some_roots()[::2]:
                claim, certificate = certify_in(root, tower)
                told = told_by(root, tower)
                self.assertEqual(claim, ("not in" if told is None else "in", str(root), tuple([str(one) for one in tower])))
                self.assertIs(accepts(claim, certificate), True, (claim, certificate))
                opposite = (OPPOSITES[claim[0]],) + claim[1:]
                self.assertIs(accepts(opposite, certificate), False)
                self.assertIs(accepts(opposite, ()), False)

    def test_great_towers(self):
        tower = tuple([Root((prime, SIZE - 11), 60 - at) for at, prime in enumerate((2, 3, 5, 7, 13))])
        for root in (*tower, Root((1, 1), 1), Root((2, SIZE - 11), 20), Root((3, 2), 60), Root((SIZE, 1), 1)):
            self.assertIs(accepts(*certify_in(root, tower)), True)
        self.assertIs(accepts(*certify_degree(tower)), True)


class EqualCalls(unittest.TestCase):
    def test_they_return_equal_results(self):
        for number in small_numbers(6):
            again = tuple(list(number))
            self.assertEqual(certify_always(number), certify_always(again))
            for n in (1, 4, 6, SIZE):
                self.assertEqual(certify_equation(number, n), certify_equation(again, n))
        for tower in some_towers():
            again = tuple([Root(root.number, root.degree) for root in tower])
            self.assertEqual(certify_degree(tower), certify_degree(again))
            self.assertEqual(certify_in(CUBE, tower), certify_in(Root((4, 1), 6), again))

    def test_kinds_of_what_is_returned(self):
        pair = certify_equation((8, 1), 6)
        claim, certificate = pair
        self.assertEqual([one.__class__ for one in (pair, claim, *claim, certificate)], [tuple, tuple, str, str, int, tuple])
        claim, certificate = certify_in(TWO, (TWO, CUBE))
        self.assertEqual([one.__class__ for one in (claim, *claim, certificate, *certificate)], [tuple, str, str, tuple, tuple, tuple, tuple])


if __name__ == "__main__":
    unittest.main()
