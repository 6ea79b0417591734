import inspect
import unittest

from purepowers import errors
from wrong_values import Stranger, nested

BASES = {"WrongValue": ValueError, "WrongName": LookupError, "NoAnswer": ArithmeticError}
GIVEN = {
    "InvalidText": "WrongValue", "InvalidName": "WrongValue", "InvalidNumber": "WrongValue",
    "InvalidDegree": "WrongValue", "InvalidKind": "WrongValue", "InvalidWish": "WrongValue",
    "InvalidIndex": "WrongValue", "InvalidLine": "WrongValue", "NotARoot": "WrongValue",
    "UnknownName": "WrongName", "TooGreat": "NoAnswer",
}
INDEX = {
    "InvalidLooks": "WrongValue", "InvalidRoots": "WrongValue", "InvalidDeeds": "WrongValue",
    "Broken": "NoAnswer", "InUse": "NoAnswer",
}
BARE = {"NoNumber": "NoAnswer", "NothingToUndo": "NoAnswer"}
VALUES = (
    None, True, False, 0, -7, 10 ** 70, "", "a text\n", b"\x00", (), (1, [2]), [], [1], {"a": 1}, {1}, object(), int, len,
    Stranger(), ValueError("x"), nested(20),
)


def class_called(name):
    return getattr(errors, name)


class Bases(unittest.TestCase):
    def test_each_base_stands_under_its_own_class_of_python(self):
        for name, python in BASES.items():
            with self.subTest(name):
                self.assertEqual(class_called(name).__bases__, (python,))

    def test_each_class_stands_under_one_base_alone(self):
        for name, base in {**GIVEN, **INDEX, **BARE}.items():
            with self.subTest(name):
                told = class_called(name)
                above = [entry for entry in told.__mro__[1:] if entry.__module__.startswith("purepowers")]
                self.assertEqual(above, [class_called(base)])
                self.assertTrue(issubclass(told, BASES[base]))
                for other, python in BASES.items():
                    if other != base:
                        self.assertFalse(issubclass(told, class_called(other)))
                        self.assertFalse(issubclass(told, python))

    def test_each_class_is_defined_in_this_file(self):
        for name in [*BASES, *GIVEN, *INDEX, *BARE]:
            with self.subTest(name):
                self.assertEqual(class_called(name).__module__, "purepowers.errors")
                self.assertEqual(class_called(name).__name__, name)
                self.assertIn("__init__", vars(class_called(name)))

    def test_they_are_caught_by_their_bases(self):
        for name, base in {**GIVEN, **INDEX}.items():
            with self.subTest(name):
                with self.assertRaises(class_called(base)):
                    raise class_called(name)(1)
        for name, base in BARE.items():
            with self.subTest(name):
                with self.assertRaises(class_called(base)):
                    raise class_called(name)()


class Attributes(unittest.TestCase):
    def check_attribute(self, name, attribute, other):
        told = class_called(name)
        self.assertEqual(list(inspect.signature(told).parameters), [attribute])
        for value in VALUES:
            self.assertIs(getattr(told(value), attribute), value)
            self.assertIs(getattr(told(**{attribute: value}), attribute), value)
            self.assertFalse(hasattr(told(value), other))
        for wrong in ((), (1, 2)):
            with self.assertRaises(TypeError):
                told(*wrong)
        for wrong in ({other: 1}, {attribute: 1, other: 2}, {"value": 1}):
            with self.assertRaises(TypeError):
                told(**wrong)

    def test_given(self):
        for name in GIVEN:
            with self.subTest(name):
                self.check_attribute(name, "given", "index")

    def test_index(self):
        for name in INDEX:
            with self.subTest(name):
                self.check_attribute(name, "index", "given")

    def test_the_others_take_none(self):
        for name in [*BASES, *BARE]:
            with self.subTest(name):
                told = class_called(name)
                self.assertFalse(hasattr(told(), "given"))
                self.assertFalse(hasattr(told(), "index"))
                for wrong in ((1,), (None,), ("text",), (1, 2)):
                    with self.assertRaises(TypeError):
                        told(*wrong)
                for wrong in ({"given": 1}, {"index": 1}):
                    with self.assertRaises(TypeError):
                        told(**wrong)

    def test_errors_equal_themselves_alone(self):
        for name in [*GIVEN, *INDEX]:
            with self.subTest(name):
                one = class_called(name)(1)
                self.assertTrue(one == one)
                self.assertTrue(one != class_called(name)(1))
                self.assertFalse(one == class_called(name)(1))


if __name__ == "__main__":
    unittest.main()
