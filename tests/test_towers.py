import unittest
from fractions import Fraction
from itertools import combinations

from purepowers import towers
from purepowers.errors import InvalidRoots, NotARoot, TooGreat
from purepowers.roots import Root
from purepowers.towers import are_independent, degree_of, is_in, is_same_field, least_parts, needless, told_by
from some_numbers import SIZE
from some_roots import Going, form_of, no_roots, no_towers, product_vector, rests, root_of, some_roots, some_towers, vector_of
from wrong_values import assert_each_argument, assert_told, raised_by, told_as_given

TWO, THREE, SIX, CUBE, EIGHT = Root((2, 1), 2), Root((3, 1), 2), Root((6, 1), 2), Root((2, 1), 3), Root((8, 9), 2)


class Signatures(unittest.TestCase):
    def test_places(self):
        names = ("degree_of", "is_in", "told_by", "needless", "least_parts", "are_independent", "is_same_field")
        for name in names:
            self.assertEqual(getattr(towers, name).__module__, "purepowers.towers")

    def test_by_name(self):
        self.assertEqual(degree_of(roots=(TWO, THREE)), 4)
        self.assertIs(is_in(roots=(TWO, THREE), root=SIX), True)
        self.assertEqual(told_by(roots=(TWO, THREE), root=SIX), ((1, 1), (1, 1)))
        self.assertEqual(needless(roots=(TWO, THREE, SIX)), (0, 1, 2))
        self.assertEqual(least_parts(roots=(TWO, THREE, SIX)), ((0, 1), (0, 2), (1, 2)))
        self.assertIs(are_independent(roots=(TWO, EIGHT)), False)
        self.assertIs(is_same_field(others=(TWO, SIX), roots=(TWO, THREE)), True)

    def test_examples_of_the_document(self):
        self.assertEqual(
            [degree_of((TWO, THREE)), degree_of((TWO, THREE, SIX)), degree_of((TWO, CUBE)), is_in(SIX, (TWO, THREE)),
             is_in(CUBE, (TWO,)), told_by(SIX, (TWO, THREE)), told_by(EIGHT, (TWO,)), told_by(CUBE, (TWO,))],
            [4, 4, 6, True, False, ((1, 1), (1, 1)), ((2, 3), (1,)), None],
        )
        self.assertEqual(
            [needless((TWO, THREE, SIX)), needless((TWO, CUBE)), least_parts((TWO, THREE, SIX)), least_parts((Root((4, 1), 2),)),
             are_independent((TWO, THREE, SIX)), are_independent((TWO, EIGHT)), is_same_field((TWO, CUBE), (Root((2, 1), 6),)),
             is_same_field((TWO,), (THREE,))],
            [(0, 1, 2), (), ((0, 1), (0, 2), (1, 2)), ((),), True, False, True, False],
        )


class WrongArguments(unittest.TestCase):
    def test_each_argument(self):
        root = (SIX, NotARoot, "given", told_as_given(no_roots()))
        tower = ((TWO, THREE), InvalidRoots, "index", no_towers())
        for function in (degree_of, needless, least_parts, are_independent):
            assert_each_argument(self, function, tower)
        for function in (is_in, told_by):
            assert_each_argument(self, function, root, tower)
        assert_each_argument(self, is_same_field, tower, tower)

    def test_five_roots_are_a_tower(self):
        for root in (TWO, Root((1, 1), 1), Root((SIZE, SIZE - 1), 60)):
            tower = (root,) * 5
            self.assertEqual(degree_of(tower), root.degree)
            self.assertIs(is_in(root, tower), True)
            self.assertIs(is_same_field(tower, (root,)), True)
            self.assertEqual(raised_by(self, InvalidRoots, degree_of, tower + (root,)).index, 5)

    def test_wrong_arguments_come_ahead_of_too_great_fractions(self):
        great = (Root((1, SIZE - 1), 1), Root((1, SIZE - 3), 2))
        assert_told(self, NotARoot, None, told_by, None, great)
        self.assertIsNone(raised_by(self, InvalidRoots, told_by, Root((SIZE - 3, 1), 2), list(great)).index)

    def test_lists_are_left_as_they_are(self):
        value = [TWO, THREE]
        raised_by(self, InvalidRoots, degree_of, value)
        self.assertEqual(value, [TWO, THREE])


class AgainstGoingThrough(unittest.TestCase):
    """All products of powers of the roots of each tower are gone through, but for fractions as factors."""

    @classmethod
    def setUpClass(cls):
        cls.towers = [(tower, Going(tower)) for tower in some_towers()]

    def test_degrees(self):
        for tower, going in self.towers:
            self.assertEqual(degree_of(tower), going.degree, [str(root) for root in tower])

    def test_roots_in_fields(self):
        for tower, going in self.towers:
            products = [root_of(product_vector(going.vectors, powers)) for powers in list(going.first.values())[::7]
                        if form_of(product_vector(going.vectors, powers))[0] <= 60]
            for root in some_roots() + products + list(tower):
                told = going.told_by(root)
                self.assertIs(is_in(root, tower), told is not None)
                self.assertEqual(told_by(root, tower), told, (str(root), [str(one) for one in tower]))
            for root in products:
                self.assertIs(is_in(root, tower), True)

    def test_what_is_told_is_so(self):
        for tower, going in self.towers:
            for root in some_roots():
                told = told_by(root, tower)
                if told is not None:
                    number, powers = told
                    self.assertEqual(len(powers), len(tower))
                    self.assertTrue(all([0 <= power < one.degree for power, one in zip(powers, tower)]))
                    vectors = [vector_of(Root(number, 1)), *going.vectors]
                    self.assertEqual(product_vector(vectors, (1, *powers)), vector_of(root))

    def test_needless_ones(self):
        for tower, going in self.towers:
            found = []
            for at, root in enumerate(tower):
                others = tower[:at] + tower[at + 1:]
                if Going(others).told_by(root) is not None:
                    found.append(at)
            self.assertEqual(needless(tower), tuple(found), [str(root) for root in tower])

    def test_least_parts(self):
        for tower, going in self.towers:
            found = []
            for many in range(len(tower) + 1):
                if not found:
                    found = [chosen for chosen in combinations(range(len(tower)), many)
                             if Going([tower[at] for at in chosen]).degree == going.degree]
            self.assertEqual(least_parts(tower), tuple(found), [str(root) for root in tower])

    def test_independence(self):
        for tower, going in self.towers:
            told = len({rests(vector) for vector in going.vectors}) == len(tower)
            self.assertIs(are_independent(tower), told, [str(root) for root in tower])

    def test_same_fields(self):
        for tower, going in self.towers:
            for other, other_going in self.towers:
                told = all([going.told_by(root) for root in other]) and all([other_going.told_by(root) for root in tower])
                self.assertIs(is_same_field(tower, other), told, [[str(root) for root in one] for one in (tower, other)])

    def test_orders_of_the_roots_do_not_count(self):
        for tower, going in self.towers:
            turned = tower[::-1]
            self.assertEqual(degree_of(turned), degree_of(tower))
            self.assertIs(are_independent(turned), are_independent(tower))
            self.assertEqual(needless(turned), tuple(sorted([len(tower) - 1 - at for at in needless(tower)])))
            self.assertIs(is_same_field(turned, tower), True)


class Told(unittest.TestCase):
    def test_fractions_in_a_tower(self):
        half, one = Root((1, 2), 1), Root((1, 1), 9)
        self.assertEqual(told_by(TWO, (half, TWO, one)), ((1, 1), (0, 1, 0)))
        self.assertEqual(told_by(Root((5, 3), 1), (half,)), ((5, 3), (0,)))
        self.assertEqual(told_by(one, (one, one)), ((1, 1), (0, 0)))
        self.assertIsNone(told_by(TWO, (half, one)))
        self.assertEqual(degree_of((half, one)), 1)
        self.assertEqual(needless((half,)), (0,))
        self.assertEqual(needless((half, one)), (0, 1))
        self.assertEqual(needless((half, TWO)), (0,))
        self.assertEqual(least_parts((half, TWO)), ((1,),))
        self.assertIs(are_independent((half, one)), False)
        self.assertIs(are_independent((half,)), True)
        self.assertIs(are_independent((half, TWO)), True)
        self.assertIs(is_same_field((half,), (one, one)), True)

    def test_roots_that_stand_twice(self):
        self.assertEqual(degree_of((TWO, TWO)), 2)
        self.assertEqual(told_by(TWO, (TWO, TWO)), ((1, 1), (0, 1)))
        self.assertEqual(told_by(SIX, (TWO, THREE, TWO, THREE)), ((1, 1), (0, 0, 1, 1)))
        self.assertEqual(needless((TWO, TWO)), (0, 1))
        self.assertEqual(least_parts((TWO, TWO, THREE)), ((0, 2), (1, 2)))
        self.assertIs(are_independent((TWO, TWO)), False)
        self.assertIs(is_same_field((TWO, TWO), (TWO,)), True)

    def test_least_exponents(self):
        fourth, eighth = Root((2, 1), 4), Root((2, 1), 8)
        self.assertEqual(told_by(TWO, (fourth, eighth)), ((1, 1), (0, 4)))
        self.assertEqual(told_by(TWO, (eighth, fourth)), ((1, 1), (0, 2)))
        self.assertEqual(told_by(eighth, (TWO, eighth)), ((1, 1), (0, 1)))
        self.assertEqual(told_by(fourth, (Root((8, 1), 4), TWO)), ((1, 2), (1, 1)))
        self.assertEqual(told_by(fourth, (TWO, Root((8, 1), 4))), ((1, 4), (0, 3)))

    def test_too_great_fractions(self):
        # The roots of the tower are one * 2 ** (1 / 3) and other * 3 ** (1 / 3).
        for one, other in ((10 ** 9 + 7, 10 ** 9 + 9), (109890011, 9100091), (5 * 10 ** 9 + 1, 6 * 10 ** 9 + 1)):
            great = (one * other) ** 2
            tower = (Root((2 * one ** 3, 1), 3), Root((3 * other ** 3, 1), 3))
            self.assertEqual(raised_by(self, TooGreat, told_by, Root((36, 1), 3), tower).given, great)
            self.assertEqual(raised_by(self, TooGreat, told_by, roots=tower, root=Root((36, 1), 3)).given, great)
            self.assertIs(is_in(Root((36, 1), 3), tower), True)
            tower = (Root((2, one ** 3), 3), Root((3, other ** 3), 3))
            self.assertEqual(raised_by(self, TooGreat, told_by, Root((36, 1), 3), tower).given, great)
            tower = (Root((2 * one ** 3, 1), 3), Root((3, other ** 3), 3))
            left = Fraction(other ** 2, one ** 2)
            self.assertEqual(told_by(Root((36, 1), 3), tower), ((left.numerator, left.denominator), (2, 2)))
            self.assertIsNone(told_by(Root((36, 5), 3), tower))
            self.assertIsNone(told_by(Root((6, 1), 6), tower))

    def test_greatest_fractions(self):
        one, other = 10 ** 8, 10 ** 7
        tower = (Root((2 * one ** 3, 1), 3), Root((3 * other ** 3, 1), 3))
        self.assertEqual(told_by(Root((36, 1), 3), tower), ((1, SIZE), (2, 2)))
        tower = (Root((3, one ** 3), 3), Root((7, other ** 3), 3))
        self.assertEqual(told_by(Root((441, 1), 3), tower), ((SIZE, 1), (2, 2)))
        self.assertEqual(told_by(Root((SIZE, SIZE - 1), 1), (TWO,)), ((SIZE, SIZE - 1), (0,)))
        self.assertEqual(told_by(Root((1, SIZE - 11), 2), (Root((SIZE - 11, 1), 2),)), ((1, SIZE - 11), (1,)))

    def test_numbers_with_great_divisors(self):
        # Three integers without a common divisor, of ten figures each.
        one, other, third = 9999999967, 9999999943, 9999999929
        tower = (Root((one * other, 1), 2), Root((other * third, 1), 2))
        root = Root((one * third, 1), 2)
        self.assertEqual(degree_of(tower), 4)
        self.assertEqual(degree_of(tower + (root,)), 4)
        self.assertEqual(told_by(root, tower), ((1, other), (1, 1)))
        self.assertEqual(told_by(Root((one, third), 2), tower), ((1, other * third), (1, 1)))
        self.assertEqual(needless(tower + (root, CUBE)), (0, 1, 2))
        self.assertIs(is_in(Root((one * other * third, 1), 2), tower), False)
        self.assertIs(is_same_field(tower, (root, tower[0])), True)
        self.assertIs(is_same_field(tower, (root, Root((one, 1), 2))), False)

    def test_great_degrees(self):
        told = [
            ((60, 59, 58, 57, 55), 60 * 59 * 29 * 19 * 11), ((60, 60, 60, 60, 60), 60), ((32, 27, 25, 49, 59), 32 * 27 * 25 * 49 * 59),
            ((60, 48), 240), ((60, 48, 36), 720), ((59,), 59), ((64 - 4, 45, 28), 1260),
        ]
        for degrees, degree in told:
            tower = tuple([Root((2, 1), n) for n in degrees])
            self.assertEqual(degree_of(tower), degree)
            self.assertEqual(told_by(Root((1, 1), 1), tower), ((1, 1), (0,) * len(degrees)))
        tower = tuple([Root((prime, 1), 60) for prime in (2, 3, 5, 7, 11)])
        self.assertEqual(degree_of(tower), 60 ** 5)
        self.assertEqual(needless(tower), ())
        self.assertEqual(least_parts(tower), ((0, 1, 2, 3, 4),))
        self.assertEqual(told_by(Root((2310, 1), 60), tower), ((1, 1), (1, 1, 1, 1, 1)))
        self.assertEqual(told_by(Root((1, 2310), 60), tower), ((1, 2310), (59, 59, 59, 59, 59)))
        self.assertEqual(told_by(Root((77, 30), 4), tower), ((1, 30), (45, 45, 45, 15, 15)))
        self.assertIsNone(told_by(Root((13, 1), 2), tower))

    def test_by_least_powers_in_turn(self):
        """Towers of too many products to go through: each power is the least one with which the rest can be told."""
        tower = (Root((2, 3), 36), Root((9, 5), 24), Root((40, 27), 30), Root((5, 12), 16))
        for root in (Root((2, 3), 12), Root((40, 27), 10), Root((3, 1), 1), Root((2, 3), 4).times(Root((9, 5), 8)), Root((5, 12), 8)):
            told = told_by(root, tower)
            self.assertIsNotNone(told)
            number, powers = told
            vectors = [vector_of(Root(number, 1)), *[vector_of(one) for one in tower]]
            self.assertEqual(product_vector(vectors, (1, *powers)), vector_of(root))
            left = vector_of(root)
            for at, one in enumerate(tower[:-1]):
                for power in range(powers[at] + 1):
                    vector = product_vector((left, vector_of(one)), (1, -power))
                    degree, _ = form_of(vector)
                    if degree <= 60:
                        self.assertIs(is_in(root_of(vector), tower[at + 1:]), power == powers[at], (str(root), at, power))
                left = product_vector((left, vector_of(one)), (1, -powers[at]))

    def test_kinds_of_what_is_returned(self):
        number, powers = told_by(SIX, (TWO, THREE))
        self.assertEqual([one.__class__ for one in (number, *number, powers, *powers)], [tuple, int, int, tuple, int, int])
        self.assertEqual([one.__class__ for one in (degree_of((TWO,)), is_in(TWO, (TWO,)), are_independent((TWO,)))], [int, bool, bool])
        self.assertEqual([one.__class__ for one in (needless((TWO, TWO)), needless((TWO, TWO))[0])], [tuple, int])
        sets = least_parts((TWO, TWO))
        self.assertEqual([one.__class__ for one in (sets, *sets, *sets[0])], [tuple, tuple, tuple, int])
        self.assertIs(is_same_field((TWO,), (TWO,)).__class__, bool)


class EqualCalls(unittest.TestCase):
    def test_they_return_equal_results(self):
        for tower in some_towers():
            again = tuple([Root(root.number, root.degree) for root in tower])
            for call in (degree_of, needless, least_parts, are_independent, lambda roots: told_by(SIX, roots), lambda roots: is_in(SIX, roots)):
                self.assertEqual(call(tower), call(again))
                self.assertEqual(call(tower), call(tower))

    def test_nothing_passed_is_changed(self):
        tower = (TWO, THREE, SIX)
        before = [str(root) for root in tower]
        for call in (degree_of, needless, least_parts, are_independent):
            call(tower)
        told_by(CUBE, tower)
        is_same_field(tower, tower)
        self.assertEqual([str(root) for root in tower], before)


if __name__ == "__main__":
    unittest.main()
