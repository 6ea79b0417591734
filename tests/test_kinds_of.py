import unittest
from itertools import combinations, product

from purepowers import kinds_of
from purepowers.errors import InvalidDegree, InvalidKind, InvalidLooks, InvalidNumber, NoNumber
from purepowers.kinds_of import best_look, kind_for, kind_of, signs_left, splits_by, verdict
from purepowers.splitting import splits
from some_numbers import (
    GREAT, PRIMES, SIZE, as_power, exponent_by_primes, is_four_by_primes, primes_in, small_numbers, some_powers,
)
from wrong_values import Stranger, assert_each_argument, no_degrees, no_integers, no_numbers, no_signs, raised_by, told_as_given

LOOK = (6, True)
TO_997 = tuple(PRIMES)
KINDS = (
    (1, (), False), (1, (2,), False), (1, (3,), False), (1, (2, 3), False), (1, (997,), False), (1, (2, 3, 5, 7, 991, 997), False),
    (1, TO_997, False), (1, "all", False), (-1, (), False), (-1, (), True), (-1, (3,), False), (-1, (3,), True), (-1, (997,), True),
    (-1, (3, 5, 7), False), (-1, (5, 11, 997), True), (-1, TO_997[1:], False), (-1, TO_997[1:], True), (-1, "all", False),
)


def told_split(kind, n):
    """Whether the equation with n splits by a kind, in the words of the document."""
    sign, primes, is_four = kind
    dividing = [prime for prime in primes_in(n) if sign == 1 or prime > 2]
    if primes != "all":
        dividing = [prime for prime in dividing if prime in primes]
    return dividing != [] or (is_four and n % 4 == 0)


def kinds_with(primes):
    """All kinds with no other primes than these."""
    found = []
    for many in range(len(primes) + 1):
        for chosen in combinations(primes, many):
            found.append((1, chosen, False))
            if 2 not in chosen:
                found = found + [(-1, chosen, False), (-1, chosen, True)]
    return found + [(1, "all", False), (-1, "all", False)]


def primes_in_question(looks, others):
    """The primes that divide an n of the looks, or one of the others."""
    return [prime for prime in PRIMES if any([n % prime == 0 for n in [look[0] for look in looks] + list(others)])]


class Trying:
    """Verdicts by going through all kinds with some primes."""

    def __init__(self, primes, most):
        self.kinds = kinds_with(primes)
        self.split = {n: [told_split(kind, n) for kind in self.kinds] for n in range(1, most + 1)}

    def fitting(self, looks):
        """The places of all kinds that fit."""
        return [at for at in range(len(self.kinds)) if all([self.split[n][at] is truth for n, truth in looks])]

    def verdict(self, fitting, n):
        told = {self.split[n][at] for at in fitting}
        return {(True,): "surely", (False,): "never", (False, True): "open"}[tuple(sorted(told))]


def no_looks():
    """Pairs of values that are no looks, and of the index that is told."""
    no_tuples = [(value, None) for value in no_integers() if not isinstance(value, tuple)]
    others = [([], None), ([LOOK], None), ({LOOK: 1}, None), (6, None), ("6", None), (LOOK, 0), ((LOOK, 6), 1), (((LOOK,),), 0)]
    parts = [value for value in no_integers() if value is not None]
    firsts = [((LOOK, (value, True)), 1) for value in parts] + [(((None, False),), 0)]
    truths = [value for value in parts if not isinstance(value, bool)] + [0, 1, "True", None]
    seconds = [((LOOK, LOOK, (2, value)), 2) for value in truths]
    whole = [((value, LOOK), 0) for value in no_integers()] + [((LOOK, value, LOOK, 7), 1) for value in no_integers()]
    lengths = [(((6,),), 0), (((6, True, True),), 0), (((),), 0), ((LOOK, (6, True, None)), 1), ((LOOK, ((6, True), True)), 1)]
    lists = [(([6, True],), 0), ((LOOK, [6, False]), 1), (((True, 6),), 0)]
    bounds = [(((0, True),), 0), (((-1, False),), 0), (((1001, True),), 0), ((LOOK, (1001, False)), 1), (((SIZE, True),), 0)]
    numbers = [((LOOK,) * 21, 20), ((LOOK,) * 22, 20), ((LOOK,) * 400, 20), ((LOOK,) * 20 + (None,), 20)]
    earlier = [((LOOK,) * 7 + (None,) + (LOOK,) * 30, 7), ((LOOK,) * 19 + ((6, 1), LOOK), 19), (((6, 1),) * 30, 0)]
    return no_tuples + others + firsts + seconds + whole + lengths + lists + bounds + numbers + earlier


def no_kinds():
    """Values of which none is a kind."""
    lengths = [(), (1,), (1, ()), (1, (), False, False), ((1, (), False),), [1, (), False], {1: 2}, "all", 1]
    signs = [(sign, (3,), False) for sign in no_signs()]
    fours = [(-1, (3,), value) for value in no_integers() if not isinstance(value, bool)] + [(-1, (), 0), (-1, (), 1), (1, (), 0)]
    not_below = [(1, (), True), (1, (3,), True), (1, "all", True), (-1, "all", True), (-1, (2,), False), (-1, (2, 3), True)]
    primes = [(1, value, False) for value in no_integers() if not (isinstance(value, tuple) and value == ())]
    words = [(1, word, False) for word in ("", "All", "all ", "al", "a", "none")] + [(1, ("all",), False), (1, ["all"], False)]
    lists = [(1, [2, 3], False), (1, [], False), (-1, [3], True), (1, ([2],), False), (1, {2: 3}, False), (1, 2, False)]
    members = [(1, (2, value), False) for value in no_integers()] + [(1, (value,), False) for value in no_integers()]
    no_primes = [(1, (value,), False) for value in (0, 1, -2, -3, 4, 6, 9, 25, 35, 49, 91, 121, 961, 989, 993, 995, 996, 998, 999)]
    beyond = [(1, (value,), False) for value in (1000, 1009, 1013, 999983, SIZE)] + [(-1, (3, 1009), True)]
    orders = [(1, (3, 2), False), (1, (2, 2), False), (-1, (3, 5, 5), True), (1, (2, 5, 3), False), (-1, (997, 3), False)]
    return lengths + signs + fours + not_below + primes + words + lists + members + no_primes + beyond + orders


class Signatures(unittest.TestCase):
    def test_places(self):
        for name in ("kind_of", "splits_by", "kind_for", "verdict", "best_look", "signs_left"):
            self.assertEqual(getattr(kinds_of, name).__module__, "purepowers.kinds_of")

    def test_by_name(self):
        looks = ((6, True), (3, False))
        self.assertEqual(kind_of(number=(64, 1)), (1, (2, 3), False))
        self.assertIs(splits_by(n=35, kind=(1, (2, 3), False)), False)
        self.assertEqual(kind_for(looks=looks)[0], 1)
        self.assertEqual(verdict(n=9, looks=looks), "never")
        self.assertEqual(best_look(most=1000, looks=looks), 5)
        self.assertEqual(signs_left(looks=looks), (1,))

    def test_examples_of_the_document(self):
        self.assertEqual(
            [kind_of((64, 1)), kind_of((-64, 1)), kind_of((1, 1)), kind_of((-27, 8)), splits_by((1, (2, 3), False), 35),
             splits_by((-1, "all", False), 12), splits_by((-1, (), True), 8)],
            [(1, (2, 3), False), (-1, (3,), True), (1, "all", False), (-1, (3,), False), False, True, True],
        )
        looks = ((6, True), (3, False))
        self.assertEqual(
            [verdict(looks, 2), verdict(looks, 9), verdict(looks, 5), signs_left(looks), best_look(looks, 1000),
             best_look(looks, 4), kind_for(((2, False), (4, True)))[::2], verdict(((2, False), (4, True)), 8),
             kind_for(((4, False), (8, True)))],
            ["surely", "never", "open", (1,), 5, None, (-1, True), "surely", None],
        )


class WrongArguments(unittest.TestCase):
    def test_each_argument(self):
        number = ((64, 1), InvalidNumber, "given", told_as_given(no_numbers()))
        kind = ((1, (2, 3), False), InvalidKind, "given", told_as_given(no_kinds()))
        looks = ((LOOK, (3, False)), InvalidLooks, "index", no_looks())
        degree = (6, InvalidDegree, "given", told_as_given(no_degrees(1, 1000)))
        assert_each_argument(self, kind_of, number)
        assert_each_argument(self, splits_by, kind, degree)
        assert_each_argument(self, kind_for, looks)
        assert_each_argument(self, verdict, looks, degree)
        assert_each_argument(self, best_look, looks, degree)
        assert_each_argument(self, signs_left, looks)

    def test_no_number_comes_last(self):
        none = ((6, True), (6, False))
        for function in (verdict, best_look):
            for n in (1, 6, 1000):
                raised_by(self, NoNumber, function, none, n)
            for wrong in (0, 1001, True, None, Stranger()):
                self.assertIs(raised_by(self, InvalidDegree, function, none, wrong).given, wrong)
            self.assertEqual(raised_by(self, InvalidLooks, function, none + (None,), 1).index, 2)
            raised_by(self, NoNumber, function, looks=none, **{"n" if function is verdict else "most": 6})

    def test_bounds(self):
        for n in (1, 1000):
            self.assertIs(splits_by((1, "all", False), n), n > 1)
            self.assertEqual(verdict((), n), "never" if n == 1 else "open")
            self.assertEqual(best_look((), n), None if n == 1 else 2)

    def test_up_to_twenty_looks(self):
        for many in (0, 1, 19, 20):
            self.assertEqual(signs_left((LOOK,) * many), (-1, 1))
        self.assertEqual(raised_by(self, InvalidLooks, signs_left, (LOOK,) * 21).index, 20)

    def test_what_is_passed_is_left_as_it_is(self):
        looks = [(6, True)]
        self.assertIsNone(raised_by(self, InvalidLooks, kind_for, looks).index)
        self.assertEqual(looks, [(6, True)])


class Kinds(unittest.TestCase):
    def test_small_numbers(self):
        for number in small_numbers(45) + [(value, 1) for value in range(-1500, 1500) if value]:
            sign = 1 if number[0] > 0 else -1
            if abs(number[0]) == number[1]:
                self.assertEqual(kind_of(number), (sign, "all", False))
            else:
                primes = [prime for prime in primes_in(exponent_by_primes(number)) if sign == 1 or prime > 2]
                self.assertEqual(kind_of(number), (sign, tuple(primes), is_four_by_primes(number)))

    def test_all_exponents(self):
        for base, exponent in some_powers():
            top, bottom = as_power(base, exponent)
            primes = tuple(primes_in(exponent))
            self.assertEqual(kind_of((top, bottom)), (1, primes, False))
            odd = tuple([prime for prime in primes if prime > 2])
            self.assertEqual(kind_of((-top, bottom)), (-1, odd, is_four_by_primes((-top, bottom))))

    def test_told_ones(self):
        told = {
            (1, 1): (1, "all", False), (-1, 1): (-1, "all", False), (2, 1): (1, (), False), (-2, 1): (-1, (), False),
            (4, 1): (1, (2,), False), (-4, 1): (-1, (), True), (-9, 1): (-1, (), False), (2 ** 30, 1): (1, (2, 3, 5), False),
            (-(2 ** 30), 1): (-1, (3, 5), True), (-(2 ** 60), 1): (-1, (3, 5), False), (2 ** 97, 1): (1, (97,), False),
            (SIZE, 1): (1, (2, 3, 5), False), (-1, SIZE): (-1, (3, 5), False), (SIZE, SIZE - 1): (1, (), False),
            (-4, 81): (-1, (), True), (-1, 64): (-1, (3,), True), (-1, 4 * 10 ** 28): (-1, (), True),
        }
        for number, kind in told.items():
            with self.subTest(number):
                self.assertEqual(kind_of(number), kind)

    def test_they_split_as_the_numbers(self):
        numbers = small_numbers(9) + list(GREAT) + [(-64, 1), (64, 1), (-4, 81), (2 ** 97, 1), (-(2 ** 99), 1), (-(2 ** 30), 1)]
        for number in numbers:
            kind = kind_of(number)
            for n in range(1, 1001):
                self.assertIs(splits_by(kind, n), splits(number, n), (number, n))

    def test_kinds_of_what_is_returned(self):
        for number in ((64, 1), (-4, 1)):
            kind = kind_of(number)
            self.assertEqual([one.__class__ for one in (kind, *kind)], [tuple, int, tuple, bool])
        self.assertEqual([one.__class__ for one in kind_of((64, 1))[1]], [int, int])
        self.assertIs(kind_of((-1, 1))[1].__class__, str)


class SplitsBy(unittest.TestCase):
    def test_all_forms(self):
        for kind in (*KINDS, *kinds_with((2, 3, 5, 7))):
            for n in (*range(1, 71), 97, 128, 210, 420, 498, 499, 512, 729, 988, 991, 994, 996, 997, 998, 999, 1000):
                self.assertIs(splits_by(kind, n), told_split(kind, n), (kind, n))

    def test_each_prime(self):
        for prime in PRIMES:
            self.assertIs(splits_by((1, (prime,), False), prime), True)
            self.assertIs(splits_by((1, tuple([other for other in PRIMES if other != prime]), False), prime), False)
            if prime > 2:
                self.assertIs(splits_by((-1, (prime,), True), prime), True)


class Looks(unittest.TestCase):
    def check_looks(self, looks, trying, most):
        """All functions, by going through all kinds of the primes in question."""
        fitting = trying.fitting(looks)
        signs = tuple(sorted({trying.kinds[at][0] for at in fitting}))
        self.assertEqual(signs_left(looks), signs, looks)
        kind = kind_for(looks)
        if not fitting:
            self.assertIsNone(kind, looks)
            raised_by(self, NoNumber, verdict, looks, 1)
            raised_by(self, NoNumber, best_look, looks, most)
            return
        for n, truth in looks:
            self.assertIs(splits_by(kind, n), truth, (looks, kind))
        told = [trying.verdict(fitting, n) for n in range(1, most + 1)]
        for n in range(1, most + 1):
            self.assertEqual(verdict(looks, n), told[n - 1], (looks, n))
        open_ones = [n for n in range(1, most + 1) if told[n - 1] == "open"]
        self.assertEqual(best_look(looks, most), open_ones[0] if open_ones else None)
        if open_ones:
            self.assertEqual(best_look(looks, open_ones[0]), open_ones[0])
            if open_ones[0] > 1:
                self.assertIsNone(best_look(looks, open_ones[0] - 1))

    def test_one_and_two_looks(self):
        trying = Trying((2, 3, 5, 7, 11), 12)
        single = list(product(range(1, 13), (True, False)))
        for look in single:
            self.check_looks((look,), trying, 12)
        for looks in product(single, single):
            self.check_looks(looks, trying, 12)

    def test_three_looks(self):
        trying = Trying((2, 3, 5, 7), 10)
        single = list(product((2, 3, 4, 6, 7, 10), (True, False)))
        for looks in product(single, single, single):
            self.check_looks(looks, trying, 10)

    def test_many_looks(self):
        trying = Trying((2, 3, 5, 7), 10)
        degrees = (2, 3, 4, 5, 6, 8, 9, 10, 7)
        for truths in product((True, False), repeat=len(degrees)):
            self.check_looks(tuple(zip(degrees, truths)), trying, 10)

    def test_looks_with_several_primes(self):
        trying = Trying((2, 3, 5, 7, 11, 13), 16)
        degrees = (6, 10, 12, 14, 15)
        for truths in product((True, False), repeat=len(degrees)):
            self.check_looks(tuple(zip(degrees, truths)), trying, 16)
            self.check_looks(tuple(zip(degrees, truths))[1:], trying, 16)

    def test_great_degrees(self):
        told = [
            ((1000, True),), ((1000, False),), ((997, True),), ((997, False), (994, True)), ((990, True), (6, False), (55, False)),
            ((990, True), (30, False)), ((1000, True), (10, False)), ((1000, False), (30, True)), ((996, True), (3, False), (83, False)),
            ((996, True), (249, False), (2, False)), ((512, True), (999, False)), ((512, False), (1000, True)), ((500, True), (125, False)),
            ((961, True), (31, False)), ((961, True), (62, False)), ((899, True), (29, False)), ((1, False), (1000, True)), ((1, True),),
        ]
        for looks in told:
            for n in (1, 2, 3, 4, 5, 6, 8, 9, 11, 22, 29, 30, 31, 62, 64, 83, 100, 125, 166, 332, 512, 899, 961, 990, 996, 997, 998, 1000):
                kinds = kinds_with(primes_in_question(looks, (n,)))
                fitting = [kind for kind in kinds if all([told_split(kind, m) is truth for m, truth in looks])]
                self.assertEqual(signs_left(looks), tuple(sorted({kind[0] for kind in fitting})))
                if fitting:
                    found = {told_split(kind, n) for kind in fitting}
                    words = {(True,): "surely", (False,): "never", (False, True): "open"}
                    self.assertEqual(verdict(looks, n), words[tuple(sorted(found))], (looks, n))
                    self.assertTrue(all([splits_by(kind_for(looks), m) is truth for m, truth in looks]))
                else:
                    self.assertIsNone(kind_for(looks))
                    raised_by(self, NoNumber, verdict, looks, n)

    def test_no_looks(self):
        self.assertIs(splits_by(kind_for(()), 1), False)
        self.assertEqual(signs_left(()), (-1, 1))
        self.assertEqual(verdict((), 1), "never")
        for n in (2, 3, 4, 8, 997, 1000):
            self.assertEqual(verdict((), n), "open")
        self.assertEqual(best_look((), 1000), 2)
        self.assertIsNone(best_look((), 1))

    def test_one_sign_alone(self):
        self.assertEqual(signs_left(((2, True),)), (1,))
        self.assertEqual(signs_left(((2, True), (3, True), (5, True))), (1,))
        self.assertEqual(signs_left(((6, True), (3, False))), (1,))
        self.assertEqual(signs_left(((2, False), (4, True))), (-1,))
        self.assertEqual(signs_left(((3, False), (2, False), (12, True))), (-1,))
        self.assertEqual(signs_left(((4, True),)), (-1, 1))
        self.assertEqual(signs_left(((4, False), (8, True))), ())
        self.assertEqual(signs_left(((1, True),)), ())

    def test_fours_alone(self):
        looks = ((4, True), (2, False), (15, True), (3, False))
        sign, primes, is_four = kind_for(looks)
        self.assertEqual((sign, is_four), (-1, True))
        self.assertEqual([verdict(looks, n) for n in (4, 8, 1000, 5, 10, 3, 9, 2, 7, 28, 14, 64)],
                         ["surely", "surely", "surely", "surely", "surely", "never", "never", "never", "open", "surely", "open", "surely"])
        self.assertEqual(best_look(looks, 1000), 7)

    def test_nothing_open(self):
        # All primes up to 97.
        looks = tuple([(n, False) for n in (6, 35, 143, 323, 667, 961, 37 * 23, 41 * 23, 43 * 23, 47 * 19, 53 * 17, 59 * 13, 61 * 13)])
        looks = looks + ((67 * 13, False), (71 * 13, False), (73 * 13, False), (79 * 11, False), (83 * 11, False), (89 * 11, False))
        looks = looks + ((97, False),)
        self.assertEqual(len(looks), 20)
        self.assertEqual(best_look(looks, 102), 4)
        self.assertEqual(best_look(looks[:-1], 3), None)
        without_fours = ((12, False),) + looks[1:]
        self.assertIsNone(best_look(without_fours, 100))
        self.assertEqual(best_look(without_fours, 101), 101)
        self.assertEqual(best_look(without_fours, 1000), 101)
        self.assertEqual([verdict(without_fours, n) for n in (2, 12, 98, 97, 101, 103, 997)], ["never"] * 4 + ["open"] * 3)

    def test_the_same_degree_twice(self):
        self.assertEqual(kind_for(((6, True), (6, True))), kind_for(((6, True),)))
        for n in (1, 2, 4, 6, 997, 1000):
            self.assertIsNone(kind_for(((n, True), (n, False))))
            self.assertIsNone(kind_for(((n, False), (2, True), (n, True))))
            self.assertEqual(signs_left(((n, True), (n, False))), ())
            raised_by(self, NoNumber, verdict, ((n, True), (n, False)), n)
            raised_by(self, NoNumber, best_look, ((n, True), (n, False)), n)

    def test_twenty_looks(self):
        looks = tuple([(prime, at % 2 == 0) for at, prime in enumerate(PRIMES[1:21])])
        self.assertEqual(len(looks), 20)
        self.assertEqual(signs_left(looks), (-1, 1))
        for n, truth in looks:
            self.assertEqual(verdict(looks, n), "surely" if truth else "never")
        self.assertEqual(best_look(looks, 1000), 2)
        self.assertEqual(verdict(looks, 79), "open")
        self.assertEqual(verdict(looks, 25), "never")
        for number in ((64, 1), (-64, 1), (1, 1), (-1, 1), (-4, 1), (2, 1), (2 ** 90, 1)):
            seen = tuple([(n, splits(number, n)) for n in (2, 3, 4, 5, 6, 7, 8, 9, 10, 11, 12, 14, 15, 21, 30, 35, 77, 210, 997, 1000)])
            self.assertEqual(len(seen), 20)
            self.assertIn(1 if number[0] > 0 else -1, signs_left(seen))
            for n in range(1, 200):
                self.assertIn(verdict(seen, n), ("open", "surely" if splits(number, n) else "never"))

    def test_verdicts_are_true_of_numbers(self):
        numbers = small_numbers(10) + [(-64, 1), (64, 1), (-4, 81), (2 ** 30, 1), (-(2 ** 30), 1), (32, 243), (-32, 243)]
        for looks in (((6, True), (3, False)), ((4, True), (2, False)), ((30, True),), ((15, False), (4, True)), ((12, False),)):
            told = {n: verdict(looks, n) for n in range(1, 61)}
            for number in numbers:
                if all([splits(number, n) is truth for n, truth in looks]):
                    for n, word in told.items():
                        self.assertIn(word, ("open", "surely" if splits(number, n) else "never"), (looks, number, n))

    def test_kinds_of_what_is_returned(self):
        kind = kind_for(((15, True), (4, True), (2, False)))
        self.assertEqual([one.__class__ for one in (kind, *kind)], [tuple, int, tuple, bool])
        self.assertEqual([one.__class__ for one in kind[1]], [int] * len(kind[1]))
        self.assertEqual([one.__class__ for one in (signs_left(()), *signs_left(()))], [tuple, int, int])
        self.assertIs(best_look((), 9).__class__, int)


class EqualCalls(unittest.TestCase):
    def test_they_return_equal_results(self):
        for looks in ((), ((6, True),), ((2, False), (4, True))):
            again = tuple([tuple(list(look)) for look in looks])
            for call in (kind_for, signs_left, lambda seen: best_look(seen, 100), lambda seen: verdict(seen, 5)):
                self.assertEqual(call(looks), call(again))


if __name__ == "__main__":
    unittest.main()
