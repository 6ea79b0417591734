import unittest

from purepowers import desks
from purepowers.desks import Desk
from purepowers.errors import InvalidDegree, InvalidIndex, NotARoot, NothingToUndo, TooGreat
from purepowers.roots import Root
from purepowers.towers import degree_of
from some_numbers import SIZE
from some_roots import no_roots, some_towers
from wrong_values import Stranger, assert_alone, assert_each_argument, assert_told, no_degrees, no_integers, raised_by, told_as_given

TWO, CUBE, THREE = Root((2, 1), 2), Root((2, 1), 3), Root((3, 1), 2)


def desk_with(*roots):
    desk = Desk()
    for root in roots:
        desk.put(root)
    return desk


def seen(desk):
    """All that a desk shows, and what can be taken back."""
    with desk.trial():
        found = [(desk.roots, desk.degree, desk.changes)]
        while desk.changes:
            desk.undo()
            found.append((desk.roots, desk.degree, desk.changes))
    return found


def no_indexes(many):
    """Values that are no indexes of so many things."""
    return no_integers() + [-1, -many, -many - 1, many, many + 1, 10 ** 30, -10 ** 30, "0", (0,), [0]]


class Signatures(unittest.TestCase):
    def test_places(self):
        self.assertEqual(Desk.__module__, "purepowers.desks")
        self.assertIs(desks.Desk, Desk)
        for name in ("put", "drop", "turn", "undo", "trial", "tried", "roots", "degree", "changes"):
            self.assertIn(name, vars(Desk))

    def test_by_name(self):
        desk = Desk()
        self.assertIsNone(desk.put(root=TWO))
        self.assertIsNone(desk.turn(many=3, index=0))
        self.assertEqual(desk.roots, (Root((8, 1), 2),))
        self.assertIsNone(desk.drop(index=0))
        self.assertEqual(desk.tried(action=lambda one: one.changes), 3)

    def test_examples_of_the_document(self):
        desk = Desk()
        self.assertEqual(
            [desk.put(TWO), desk.put(CUBE), desk.degree, desk.turn(1, 3), desk.degree, str(desk.roots[0]), str(desk.roots[1]),
             desk.drop(0), desk.degree, desk.changes, desk.undo(), len(desk.roots)],
            [None, None, 6, None, 2, "2 of 2", "1 of 2", None, 1, 4, None, 2],
        )
        self.assertEqual(raised_by(self, InvalidIndex, Desk().drop, 0).given, 0)


class Building(unittest.TestCase):
    def test_a_new_desk(self):
        desk = Desk()
        self.assertEqual((desk.roots, desk.degree, desk.changes), ((), 1, 0))
        self.assertTrue(desk)
        raised_by(self, NothingToUndo, desk.undo)
        with self.assertRaises(TypeError):
            Desk(())

    def test_put(self):
        for tower in some_towers():
            desk = Desk()
            for many, root in enumerate(tower, start=1):
                self.assertIsNone(desk.put(root))
                self.assertEqual((desk.roots, desk.degree, desk.changes), (tower[:many], degree_of(tower[:many]), many))
                self.assertIs(desk.roots[-1], root)

    def test_a_sixth_root(self):
        desk = desk_with(TWO, TWO, CUBE, TWO, THREE)
        before = seen(desk)
        for root in (TWO, Root((1, 1), 1), Root((SIZE, SIZE - 1), 60)):
            self.assertEqual(raised_by(self, TooGreat, desk.put, root).given, 6)
            self.assertEqual(raised_by(self, TooGreat, desk.put, root=root).given, 6)
        for wrong in no_roots():
            assert_told(self, NotARoot, wrong, desk.put, wrong)
        self.assertEqual(seen(desk), before)
        desk.drop(2)
        desk.put(CUBE)
        self.assertEqual(desk.roots, (TWO, TWO, TWO, THREE, CUBE))

    def test_drop(self):
        roots = (TWO, CUBE, THREE, Root((5, 1), 4), Root((7, 1), 5))
        for index in range(5):
            desk = desk_with(*roots)
            self.assertIsNone(desk.drop(index))
            self.assertEqual(desk.roots, roots[:index] + roots[index + 1:])
            self.assertEqual((desk.degree, desk.changes), (degree_of(desk.roots), 6))
        desk = desk_with(TWO)
        desk.drop(0)
        self.assertEqual((desk.roots, desk.degree, desk.changes), ((), 1, 2))

    def test_turn(self):
        roots = (TWO, CUBE, Root((5, 3), 6))
        for index, root in enumerate(roots):
            for many in (-20, -3, -1, 0, 1, 2, 6, 20):
                desk = desk_with(*roots)
                self.assertIsNone(desk.turn(index, many))
                self.assertEqual(desk.roots, roots[:index] + (root.raised(many),) + roots[index + 1:])
                self.assertEqual((desk.degree, desk.changes), (degree_of(desk.roots), 4))

    def test_degrees(self):
        desk = desk_with(TWO, THREE)
        self.assertEqual(desk.degree, 4)
        desk.put(Root((6, 1), 2))
        self.assertEqual(desk.degree, 4)
        desk.put(Root((6, 1), 4))
        self.assertEqual(desk.degree, 8)
        desk.put(Root((1, 7), 1))
        self.assertEqual(desk.degree, 8)

    def test_roots_that_were_seen_stay_as_they_were(self):
        desk = desk_with(TWO, CUBE)
        roots = desk.roots
        desk.put(THREE)
        desk.turn(0, 3)
        desk.drop(1)
        self.assertEqual(roots, (TWO, CUBE))
        self.assertIs(roots.__class__, tuple)

    def test_two_desks(self):
        one, other = desk_with(TWO), desk_with(CUBE)
        one.put(THREE)
        other.undo()
        self.assertEqual((one.roots, one.changes), ((TWO, THREE), 2))
        self.assertEqual((other.roots, other.changes), ((), 0))

    def test_desks_equal_themselves_alone(self):
        assert_alone(self, desk_with(TWO), desk_with(TWO))
        assert_alone(self, Desk(), Desk())
        self.assertFalse(desk_with(TWO) == (TWO,))
        self.assertFalse(desk_with(TWO) == TWO)
        self.assertTrue(Desk() and desk_with(TWO))


class WrongArguments(unittest.TestCase):
    def test_each_argument(self):
        for desk in (desk_with(TWO), desk_with(TWO, CUBE, THREE), desk_with(*(CUBE,) * 5)):
            before = seen(desk)
            index = (0, InvalidIndex, "given", told_as_given(no_indexes(len(desk.roots))))
            many = (2, InvalidDegree, "given", told_as_given(no_degrees(-20, 20)))
            assert_each_argument(self, desk.drop, index)
            assert_each_argument(self, desk.turn, index, many)
            self.assertEqual(seen(desk), before)
        desk = Desk()
        assert_each_argument(self, desk.put, (TWO, NotARoot, "given", told_as_given(no_roots())))
        for wrong in no_indexes(0) + [0]:
            assert_told(self, InvalidIndex, wrong, desk.drop, wrong)
            assert_told(self, InvalidIndex, wrong, desk.turn, wrong, Stranger())
        self.assertEqual(seen(desk), [((), 1, 0)])

    def test_too_great_powers(self):
        desk = desk_with(TWO, Root((SIZE, 1), 1), Root((SIZE - 1, SIZE), 7))
        before = seen(desk)
        self.assertEqual(raised_by(self, TooGreat, desk.turn, 1, 2).given, SIZE ** 2)
        self.assertEqual(raised_by(self, TooGreat, desk.turn, 1, -20).given, SIZE ** 20)
        self.assertEqual(raised_by(self, TooGreat, desk.turn, many=8, index=2).given, SIZE ** 8)
        assert_told(self, InvalidDegree, 21, desk.turn, 1, 21)
        assert_told(self, InvalidIndex, 3, desk.turn, 3, 21)
        self.assertEqual(seen(desk), before)


class Undoing(unittest.TestCase):
    def test_each_change(self):
        desk = Desk()
        states = [desk.roots]
        changes = [
            lambda: desk.put(TWO), lambda: desk.put(CUBE), lambda: desk.turn(0, 3), lambda: desk.drop(1), lambda: desk.put(TWO),
            lambda: desk.put(THREE), lambda: desk.drop(0), lambda: desk.turn(1, -2), lambda: desk.put(CUBE), lambda: desk.drop(2),
        ]
        for change in changes:
            change()
            states.append(desk.roots)
            self.assertEqual(desk.changes, len(states) - 1)
        for many in range(len(changes), 0, -1):
            self.assertEqual((desk.roots, desk.changes), (states[many], many))
            self.assertIsNone(desk.undo())
        self.assertEqual((desk.roots, desk.changes), ((), 0))
        for _ in range(2):
            raised_by(self, NothingToUndo, desk.undo)
        self.assertEqual((desk.roots, desk.changes), ((), 0))

    def test_changes_that_leave_all_as_it_was(self):
        desk = desk_with(TWO, TWO)
        desk.turn(0, 1)
        self.assertEqual((desk.roots, desk.changes), ((TWO, TWO), 3))
        desk.turn(1, 1)
        self.assertEqual(desk.changes, 4)
        desk.undo()
        self.assertEqual((desk.roots, desk.changes), ((TWO, TWO), 3))
        desk.undo()
        desk.undo()
        self.assertEqual((desk.roots, desk.changes), ((TWO,), 1))

    def test_changes_behind_an_undo(self):
        desk = desk_with(TWO, CUBE)
        desk.undo()
        desk.put(THREE)
        self.assertEqual((desk.roots, desk.changes), ((TWO, THREE), 2))
        desk.undo()
        self.assertEqual((desk.roots, desk.changes), ((TWO,), 1))

    def test_errors_can_not_be_taken_back(self):
        desk = desk_with(TWO)
        for call in (lambda: desk.drop(1), lambda: desk.put(None), lambda: desk.turn(0, 21)):
            with self.assertRaises(ValueError):
                call()
        self.assertEqual(desk.changes, 1)
        desk.undo()
        self.assertEqual(desk.changes, 0)

    def test_many_changes(self):
        desk = desk_with(TWO)
        for _ in range(100000):
            desk.turn(0, 1)
        self.assertEqual(desk.changes, 100001)
        for _ in range(50000):
            desk.undo()
        self.assertEqual((desk.changes, desk.roots), (50001, (TWO,)))


class Left(Exception):
    pass


class Trials(unittest.TestCase):
    def setUp(self):
        self.desk = desk_with(TWO, CUBE)
        self.desk.turn(0, 1)
        self.before = seen(self.desk)

    def change_all(self, desk):
        desk.put(THREE)
        desk.drop(0)
        desk.turn(0, 5)

    def test_as_gives_the_desk(self):
        with self.desk.trial() as given:
            self.assertIs(given, self.desk)
            self.change_all(given)
            self.assertEqual((given.roots, given.changes), ((CUBE.raised(5), THREE), 6))
        self.assertEqual(seen(self.desk), self.before)

    def test_without_as(self):
        with self.desk.trial():
            self.change_all(self.desk)
        self.assertEqual(seen(self.desk), self.before)
        with self.desk.trial():
            pass
        self.assertEqual(seen(self.desk), self.before)

    def test_left_by_an_exception(self):
        error = Left("a word")
        with self.assertRaises(Left) as caught:
            with self.desk.trial():
                self.change_all(self.desk)
                raise error
        self.assertIs(caught.exception, error)
        self.assertEqual(seen(self.desk), self.before)
        for wrong in (KeyboardInterrupt, GeneratorExit):
            with self.assertRaises(wrong):
                with self.desk.trial():
                    self.desk.drop(0)
                    raise wrong()
            self.assertEqual(seen(self.desk), self.before)

    def test_left_by_an_error_of_the_desk(self):
        with self.assertRaises(InvalidIndex):
            with self.desk.trial():
                self.desk.drop(0)
                self.desk.drop(1)
        self.assertEqual(seen(self.desk), self.before)

    def leave_by_return(self):
        with self.desk.trial() as desk:
            self.change_all(desk)
            return desk.degree

    def test_left_by_return_break_and_continue(self):
        self.assertEqual(self.leave_by_return(), 6)
        self.assertEqual(seen(self.desk), self.before)
        for left in (True, False):
            for _ in range(2):
                with self.desk.trial():
                    self.desk.put(THREE)
                    if left:
                        break
                    continue
            self.assertEqual(seen(self.desk), self.before)

    def test_changes_taken_back_within(self):
        with self.desk.trial():
            self.desk.undo()
            self.desk.undo()
            self.desk.put(THREE)
            self.assertEqual((self.desk.roots, self.desk.changes), ((TWO, THREE), 2))
        self.assertEqual(seen(self.desk), self.before)
        with self.desk.trial():
            while self.desk.changes:
                self.desk.undo()
            raised_by(self, NothingToUndo, self.desk.undo)
        self.assertEqual(seen(self.desk), self.before)
        self.desk.undo()
        self.assertEqual(seen(self.desk), self.before[1:])

    def test_entered_twice(self):
        trial = self.desk.trial()
        for _ in range(3):
            with trial as given:
                self.assertIs(given, self.desk)
                self.change_all(given)
            self.assertEqual(seen(self.desk), self.before)
        self.desk.put(THREE)
        later = seen(self.desk)
        with trial:
            self.change_all(self.desk)
        self.assertEqual(seen(self.desk), later)

    def test_made_before_other_changes(self):
        trial = self.desk.trial()
        self.desk.drop(0)
        later = seen(self.desk)
        with trial:
            self.desk.drop(0)
        self.assertEqual(seen(self.desk), later)

    def test_one_within_itself(self):
        trial = self.desk.trial()
        with trial:
            self.desk.put(THREE)
            inner = seen(self.desk)
            with trial:
                self.desk.drop(0)
                self.desk.drop(0)
                innermost = seen(self.desk)
                with trial as given:
                    given.undo()
                    given.undo()
                    given.undo()
                self.assertEqual(seen(self.desk), innermost)
            self.assertEqual(seen(self.desk), inner)
            with self.assertRaises(Left):
                with trial:
                    self.desk.drop(1)
                    raise Left()
            self.assertEqual(seen(self.desk), inner)
            self.desk.put(THREE)
        self.assertEqual(seen(self.desk), self.before)

    def test_one_within_another(self):
        with self.desk.trial():
            self.desk.put(THREE)
            inner = seen(self.desk)
            with self.desk.trial():
                self.desk.undo()
                self.desk.undo()
            self.assertEqual(seen(self.desk), inner)
        self.assertEqual(seen(self.desk), self.before)

    def test_of_two_desks(self):
        other = desk_with(THREE)
        with self.desk.trial(), other.trial():
            self.desk.put(THREE)
            other.drop(0)
            self.assertEqual((len(self.desk.roots), len(other.roots)), (3, 0))
        self.assertEqual(seen(self.desk), self.before)
        self.assertEqual(seen(other), [((THREE,), 2, 1), ((), 1, 0)])

    def test_trials_equal_themselves_alone(self):
        assert_alone(self, self.desk.trial(), self.desk.trial())
        self.assertFalse(self.desk.trial() == self.desk)
        self.assertTrue(self.desk.trial())

    def test_tried(self):
        marker = object()

        def action(desk):
            self.assertIs(desk, self.desk)
            self.change_all(desk)
            return marker

        self.assertIs(self.desk.tried(action), marker)
        self.assertEqual(seen(self.desk), self.before)
        self.assertIsNone(self.desk.tried(self.change_all))
        self.assertEqual(self.desk.tried(lambda desk: (desk.undo(), desk.changes)[1]), 2)
        self.assertEqual(self.desk.tried(lambda desk: desk.tried(lambda inner: (inner.drop(0), inner.degree)[1])), 3)
        self.assertEqual(seen(self.desk), self.before)

    def test_tried_with_errors(self):
        error = Left()

        def action(desk):
            desk.drop(0)
            raise error

        self.assertIs(raised_by(self, Left, self.desk.tried, action), error)
        self.assertEqual(raised_by(self, InvalidIndex, self.desk.tried, lambda desk: desk.drop(2)).given, 2)
        raised_by(self, NothingToUndo, self.desk.tried, lambda desk: [desk.undo() for _ in range(9)])
        self.assertEqual(seen(self.desk), self.before)


class EqualCalls(unittest.TestCase):
    def test_equal_desks_by_equal_calls(self):
        for tower in some_towers():
            one, other = desk_with(*tower), desk_with(*[Root(root.number, root.degree) for root in tower])
            self.assertEqual(seen(one), seen(other))
            self.assertEqual(one.degree, one.degree)


if __name__ == "__main__":
    unittest.main()
