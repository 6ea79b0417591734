"""The whole document once more: its examples in one run, the list of its interface, and what holds over all modules."""

import ast
import importlib
import inspect
import unittest

from purepowers import errors
from wrong_values import Stranger

EXAMPLES = r'''
>>> from purepowers.numbers import base_of, four_root, multiplied, number_text, power_root, read_number
>>> [number_text((-3, 4)), read_number("-3/4"), base_of((8, 27)), base_of((-4, 1)), base_of((12, 1)), base_of((-1, 1)), multiplied((3, 4), 6)]
['-3/4', (-3, 4), ((2, 3), 3), ((2, 1), 2), ((12, 1), 1), ((1, 1), 0), (9, 2)]
>>> [power_root((8, 27), 3), power_root((-8, 27), 3), power_root((4, 1), 2), power_root((-4, 1), 2), power_root((1, 1), 10 ** 30), four_root((-4, 1)), four_root((-1, 4)), four_root((-8, 1))]
[(2, 3), (-2, 3), (2, 1), None, (1, 1), (1, 1), (1, 2), None]
>>> read_number("2/4")
raises InvalidText(given='2/4')
>>> from purepowers.splitting import count_parts, factor, is_always_whole, parts, splits, why
>>> [splits((8, 1), 6), splits((8, 1), 10 ** 30), splits((-4, 1), 4), splits((-9, 1), 4), why((8, 1), 6), why((-4, 1), 4), why((64, 1), 9), why((2, 1), 7)]
[True, False, True, False, ('power', 3, (2, 1)), ('four', (1, 1)), ('power', 3, (4, 1)), None]
>>> [factor((8, 1), 6), factor((-4, 1), 4), factor((-1, 4), 8), is_always_whole((2, 1)), is_always_whole((-9, 1)), is_always_whole((-4, 1)), is_always_whole((1, 1))]
[((2, (1, 1)), (0, (-2, 1))), ((2, (1, 1)), (1, (2, 1)), (0, (2, 1))), ((4, (1, 1)), (2, (1, 1)), (0, (1, 2))), True, True, False, False]
>>> [parts((8, 1), 6), parts((-4, 1), 4), parts((1, 1), 6), parts((729, 1), 12), parts((-27, 1), 6), parts((2, 3), 1000), count_parts((64, 1), 6)]
[((2, 1), (4, 1)), ((2, 2),), ((1, 2), (2, 2)), ((2, 4), (4, 1)), ((2, 3),), ((1000, 1),), 4]
>>> from purepowers.counting import count_always, count_numbers, count_splits, first_split, least_times, next_split, nth_split
>>> [first_split((64, 1)), first_split((-64, 1)), first_split((2, 3)), count_splits((64, 1), 100), count_splits((-64, 1), 100), count_splits((1, 1), 10), count_splits((-1, 1), 10)]
[2, 3, None, 67, 50, 9, 6]
>>> [next_split((-4, 1), 10 ** 30) - 10 ** 30, nth_split((64, 1), 1), nth_split((8, 1), 10 ** 18), count_always(100, 1), count_always(10, -1), least_times((64, 1)), least_times((-4, 1)), least_times((1, 1)), count_numbers(6, 100, 1), count_numbers(4, 100, -1), count_numbers(12, 100, -1), count_numbers(1, 100, 1)]
[4, 2, 3000000000000000000, 87, 7, 3, 3, 2, 12, 2, 5, 0]
>>> from purepowers.kinds_of import best_look, kind_for, kind_of, signs_left, splits_by, verdict
>>> [kind_of((64, 1)), kind_of((-64, 1)), kind_of((1, 1)), kind_of((-27, 8)), splits_by((1, (2, 3), False), 35), splits_by((-1, "all", False), 12), splits_by((-1, (), True), 8)]
[(1, (2, 3), False), (-1, (3,), True), (1, 'all', False), (-1, (3,), False), False, True, True]
>>> looks = ((6, True), (3, False))
>>> [verdict(looks, 2), verdict(looks, 9), verdict(looks, 5), signs_left(looks), best_look(looks, 1000), best_look(looks, 4), kind_for(((2, False), (4, True)))[::2], verdict(((2, False), (4, True)), 8), kind_for(((4, False), (8, True)))]
['surely', 'never', 'open', (1,), 5, None, (-1, True), 'surely', None]
>>> from purepowers.roots import Root
>>> two, three, six, cube, eight = Root((2, 1), 2), Root((3, 1), 2), Root((6, 1), 2), Root((2, 1), 3), Root((8, 9), 2)
>>> [str(Root((64, 1), 4)), str(Root((4, 9), 2)), str(two.times(cube)), str(two.raised(-3)), two.times(three) == six, two.is_less(Root((3, 1), 3)), Root.read("2 of 8").degree, two.times(two).is_fraction, repr(cube), two.cut(3), Root((1, 8), 3).cut(2), Root((10 ** 30, 1), 60).cut(0), Root((1, 3), 1).cut(5)]
['2 of 8', '1 of 2/3', '6 of 32', '2 of 1/8', True, True, 2, True, 'Root of degree 3', '1.414', '0.50', '3', '0.33333']
>>> Root.read("2 of 4")
raises InvalidText(given='2 of 4')
>>> from purepowers.towers import are_independent, degree_of, is_in, is_same_field, least_parts, needless, told_by
>>> [degree_of((two, three)), degree_of((two, three, six)), degree_of((two, cube)), is_in(six, (two, three)), is_in(cube, (two,)), told_by(six, (two, three)), told_by(eight, (two,)), told_by(cube, (two,))]
[4, 4, 6, True, False, ((1, 1), (1, 1)), ((2, 3), (1,)), None]
>>> [needless((two, three, six)), needless((two, cube)), least_parts((two, three, six)), least_parts((Root((4, 1), 2),)), are_independent((two, three, six)), are_independent((two, eight)), is_same_field((two, cube), (Root((2, 1), 6),)), is_same_field((two,), (three,))]
[(0, 1, 2), (), ((0, 1), (0, 2), (1, 2)), ((),), True, False, True, False]
>>> from purepowers.desks import Desk
>>> desk = Desk()
>>> [desk.put(two), desk.put(cube), desk.degree, desk.turn(1, 3), desk.degree, str(desk.roots[0]), str(desk.roots[1]), desk.drop(0), desk.degree, desk.changes, desk.undo(), len(desk.roots)]
[None, None, 6, None, 2, '2 of 2', '1 of 2', None, 1, 4, None, 2]
>>> Desk().drop(0)
raises InvalidIndex(given=0)
>>> from purepowers.books import Book
>>> book = Book()
>>> [book.do_all(("put", "main", (64, 1)), ("wish", ("splits", "main", 10 ** 30)), ("wish", ("whole", "main", 35))), book.names, book.changes]
[3, ('main',), 3]
>>> book.do_all(("put", "main", (16, 1)), ("put", "main", (32, 1)))
raises Broken(index=1)
>>> from purepowers.certificates import certify_always, certify_degree, certify_equation, certify_in
>>> from purepowers.checker import accepts
>>> [certify_equation((8, 1), 6)[0], certify_equation((-9, 1), 4), certify_always((-9, 1)), certify_always((4, 1)), certify_degree((two, cube)), certify_in(cube, (two,))]
[('splits', '8', 6), (('whole', '-9', 4), ((3, 1), 2)), (('always', '-9'), ((3, 1), 2)), None, (('degree', ('2 of 2', '3 of 2'), 6), ()), (('not in', '3 of 2', ('2 of 2',)), ())]
>>> [accepts(("splits", "64", 12), ("power", 6, (2, 1))), accepts(("splits", "-4", 4), ("four", (-1, 1))), accepts(("whole", "64", 35), ((8, 1), 2)), accepts(("in", "2 of 6", ("2 of 2", "2 of 3")), ((1, 1), (1, 1))), accepts(("in", "2 of 2", ("2 of 8",)), ((1, 2), (1,))), accepts(("always", "8"), ((2, 1), 3))]
[True, True, False, True, True, False]
>>> from purepowers.console import Console
>>> console = Console()
>>> [console.say("put 2"), console.say("put 3"), console.say("degree"), console.say("take -64"), console.say("splits 4"), console.say("why 6"), console.say("why 8"), console.say("next 4"), console.say("parts 4"), console.say("always"), console.say("put 3"), console.say("roots"), console.say("undo"), console.say("degree")]
['ok', 'ok', '6', 'ok', 'yes', 'power 3 -4', 'four 2', '6', '2 2', 'no', 'InvalidNumber', '2 of 2; 3 of 2', 'ok', '2']
>>> console.say("take 2/4")
raises InvalidLine(given='take 2/4')
'''

# To each module its functions, and its classes with their methods and properties.
INTERFACE = {
    "numbers": {
        "number_text": ["number"], "read_number": ["text"], "base_of": ["number"], "power_root": ["number", "n"], "four_root": ["number"],
        "multiplied": ["number", "times"],
    },
    "splitting": {
        "splits": ["number", "n"], "why": ["number", "n"], "factor": ["number", "n"], "is_always_whole": ["number"], "parts": ["number", "n"],
        "count_parts": ["number", "n"],
    },
    "counting": {
        "first_split": ["number"], "count_splits": ["number", "many"], "next_split": ["number", "n"], "nth_split": ["number", "place"],
        "count_always": ["many", "sign"], "least_times": ["number"], "count_numbers": ["n", "many", "sign"],
    },
    "kinds_of": {
        "kind_of": ["number"], "splits_by": ["kind", "n"], "kind_for": ["looks"], "verdict": ["looks", "n"], "best_look": ["looks", "most"],
        "signs_left": ["looks"],
    },
    "towers": {
        "degree_of": ["roots"], "is_in": ["root", "roots"], "told_by": ["root", "roots"], "needless": ["roots"], "least_parts": ["roots"],
        "are_independent": ["roots"], "is_same_field": ["roots", "others"],
    },
    "checker": {"accepts": ["claim", "certificate"]},
    "certificates": {
        "certify_equation": ["number", "n"], "certify_always": ["number"], "certify_degree": ["roots"], "certify_in": ["root", "roots"],
    },
    "roots": {"Root": {
        "__init__": ["self", "number", "n"], "read": ["text"], "times": ["self", "other"], "raised": ["self", "many"], "is_less": ["self", "other"],
        "cut": ["self", "places"], "__str__": ["self"], "__repr__": ["self"], "__eq__": None, "degree": "property", "number": "property",
        "is_fraction": "property",
    }},
    "desks": {"Desk": {
        "__init__": ["self"], "put": ["self", "root"], "drop": ["self", "index"], "turn": ["self", "index", "many"], "undo": ["self"],
        "trial": ["self"], "tried": ["self", "action"], "roots": "property", "degree": "property", "changes": "property",
    }},
    "books": {"Book": {
        "__init__": ["self"], "__setitem__": None, "__getitem__": None, "__contains__": None, "__len__": None, "drop": ["self", "name"],
        "wish": ["self", "wish"], "lift": ["self", "index"], "undo": ["self"], "do_all": ["self", "deeds", "watch"], "trial": ["self"],
        "tried": ["self", "action"], "names": "property", "wishes": "property", "changes": "property",
    }},
    "console": {"Console": {"__init__": ["self"], "say": ["self", "line"]}},
}


def shown(row, names):
    """What the row of an example shows: the text of its value or of its error, None for a statement."""
    if not isinstance(ast.parse(row).body[0], ast.Expr):
        exec(row, names)
        return None
    try:
        return repr(eval(row, names))
    except (errors.WrongValue, errors.WrongName, errors.NoAnswer) as error:
        told = ", ".join([f"{key}={value!r}" for key, value in vars(error).items()])
        return f"raises {error.__class__.__name__}({told})"


class Examples(unittest.TestCase):
    def run_all(self):
        names, waiting = {}, None
        for row in EXAMPLES.strip().split("\n"):
            if row.startswith(">>> "):
                self.assertIsNone(waiting)
                with self.subTest(row):
                    waiting = shown(row[4:], names)
            else:
                self.assertEqual(waiting, row)
                waiting = None
        return names

    def test_twice(self):
        one, other = self.run_all(), self.run_all()
        self.assertEqual(set(one), set(other))
        for name in ("two", "three", "six", "cube", "eight", "looks"):
            self.assertEqual(one[name], other[name])
        for name in ("desk", "book", "console"):
            self.assertNotEqual(one[name], other[name])
        self.assertEqual(one["desk"].roots, other["desk"].roots)


class Interface(unittest.TestCase):
    def check_function(self, function, names, module):
        self.assertEqual(function.__module__, module)
        self.assertEqual(list(inspect.signature(function).parameters), names)

    def check_class(self, told, parts, module):
        self.assertEqual(told.__module__, module)
        for name, names in parts.items():
            # In the body of the class itself.
            self.assertIn(name, vars(told))
            if names == "property":
                self.assertIsInstance(vars(told)[name], property)
                self.assertIsNone(vars(told)[name].fset)
            elif names is not None:
                self.assertEqual(list(inspect.signature(getattr(told, name)).parameters), names)

    def test_names_and_parameters(self):
        for module, entries in INTERFACE.items():
            file = importlib.import_module(f"purepowers.{module}")
            for name, told in entries.items():
                with self.subTest(module, name=name):
                    if isinstance(told, dict):
                        self.check_class(getattr(file, name), told, file.__name__)
                    else:
                        self.check_function(getattr(file, name), told, file.__name__)

    def test_parameters_by_position_and_by_name(self):
        for module, entries in INTERFACE.items():
            file = importlib.import_module(f"purepowers.{module}")
            for name, told in entries.items():
                calls = [getattr(file, name)] if not isinstance(told, dict) else [
                    getattr(getattr(file, name), part) for part, names in told.items() if isinstance(names, list) and part != "do_all"
                ]
                for call in calls:
                    for one in inspect.signature(call).parameters.values():
                        self.assertIs(one.kind, inspect.Parameter.POSITIONAL_OR_KEYWORD)
                        self.assertIs(one.default, inspect.Parameter.empty)
        watch = inspect.signature(importlib.import_module("purepowers.books").Book.do_all).parameters["watch"]
        self.assertEqual((watch.kind, watch.default), (inspect.Parameter.KEYWORD_ONLY, None))


class OverAll(unittest.TestCase):
    """Calls of the whole program with equal arguments, one after the other and once more."""

    @staticmethod
    def calls():
        """Pairs of a function and its arguments, all made anew."""
        roots = importlib.import_module("purepowers.roots")
        root = roots.Root((2, 3), 4)
        tower = (roots.Root((2, 1), 2), roots.Root((3, 1), 2), root)
        values = {
            "number": (-64, 729), "n": 12, "text": "-64/729", "times": 7, "many": 50, "place": 9, "sign": -1, "kind": (-1, (3, 5), True),
            "looks": ((6, True), (4, False)), "most": 40, "root": root, "roots": tower, "others": tower[:2], "other": tower[0],
            "claim": ("splits", "8", 6), "certificate": ("power", 3, (2, 1)),
        }
        found = []
        for module, entries in INTERFACE.items():
            file = importlib.import_module(f"purepowers.{module}")
            for name, told in entries.items():
                if isinstance(told, list):
                    found.append((getattr(file, name), {one: values[one] for one in told}))
        return found

    def test_the_same_calls_twice(self):
        for (call, named), (_, again) in zip(self.calls(), self.calls()):
            with self.subTest(call.__name__):
                told = call(**named)
                self.assertEqual(told, call(**again))
                self.assertEqual(told, call(*named.values()))
                self.assertEqual(told, call(**named))
                self.assertEqual(list(named.values()), list(again.values()))

    def test_what_is_returned_has_no_lists(self):
        for call, named in self.calls():
            waiting = [call(**named)]
            while waiting:
                value = waiting.pop()
                self.assertIn(value.__class__, (int, bool, str, tuple, None.__class__), call.__name__)
                waiting += list(value) if isinstance(value, tuple) else []

    def test_errors_of_classes_beside_one_another(self):
        for call, named in self.calls():
            for name in named:
                if call.__name__ != "accepts":
                    with self.assertRaises(errors.WrongValue) as caught:
                        call(**{**named, name: Stranger()})
                    self.assertEqual(len([one for one in caught.exception.__class__.__mro__ if one.__module__ == "purepowers.errors"]), 2)


if __name__ == "__main__":
    unittest.main()
