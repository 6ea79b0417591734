import inspect
import unittest
from fractions import Fraction

from purepowers import console as console_file
from purepowers.console import Console
from purepowers.counting import least_times, next_split
from purepowers.desks import Desk
from purepowers.errors import InvalidLine, WrongValue, NoAnswer
from purepowers.roots import Root
from purepowers.splitting import is_always_whole, parts, splits, why
from some_numbers import GREAT, SIZE, as_power, small_numbers, some_powers
from some_roots import no_roots
from wrong_values import assert_alone, assert_told, no_integers

NUMBERS = ((8, 1), (64, 1), (-64, 1), (-4, 1), (1, 1), (-1, 1), (2, 3), (-27, 8), (-1, 4), (12, 1), (-(2 ** 99), 1))
FAR = ("0", "-1", "-7", str(-SIZE), str(SIZE + 1), "9" * 30 + "00", "9" * 80, "-" + "9" * 80, "1" + "0" * 300)


def console_with(*lines):
    console = Console()
    for line in lines:
        if console.say(line) != "ok":
            raise AssertionError(line)
    return console


def seen(console):
    """All that a console tells of itself, and what can be taken back; it takes all back."""
    found = [console.say("number"), console.say("roots"), console.say("degree")]
    while console.say("undo") == "ok":
        found += [console.say("roots"), console.say("degree")]
    return found


def text_of(number):
    return str(Fraction(*number))


def error_of(call):
    """The name of the class of the error, or `ok`."""
    try:
        call()
    except (WrongValue, NoAnswer) as error:
        return error.__class__.__name__
    return "ok"


def no_lines():
    """Strings that are no lines."""
    found = [
        "", " ", "\n", "take", "take ", "take 2 3", "take 2 ", " take 2", "take  2", "take 2\n", "take\t2", "Take 2", "TAKE 2", "take 2/4", "take 02",
        "take +2", "take 2/1", "take 0", "take -0", "take 2/-3", "take - 2", "take two", "take 2.0", "take 2/03", "take 1/0", "take of",
        f"take {SIZE + 1}", f"take 1/{SIZE + 1}", "take " + "9" * 3900, "take take 2", "2 take", "take number", "take 2 number",
    ]
    for word in ("number", "always", "times", "undo", "degree", "roots"):
        found += [word + " ", " " + word, word + "\n", "\n" + word, word + " 1", word + " " + word, word.upper(), word.title(), word[:-1], word + "s!", word + "-"]
        found += [word + "\t", word + "  ", "take " + word, word + " take 2", word + ";"]
    for word in ("splits", "why", "next", "parts", "put", "drop"):
        for text in ("", " ", "02", "00", "-0", "+2", "2.0", "2 ", " 2", "2\n", "2 3", "two", "2e1", "1_0", "--2", "- 2", "-", "-02", "1/2", "\u0662", "\u00b2", "0x2", "2;"):
            found.append(f"{word} {text}")
        found += [word, "2 " + word, word + "2", word + "\t2", word + "  2", word.upper() + " 2", word + " 2 " + word, word + " -", word + "\n2", f" {word} 2"]
    for text in ("", " ", "0", "0 ", " 0 1", "0 1 ", "0  1", "00 1", "0 01", "-0 1", "0 -0", "0 +1", "0 1 2", "0,1", "0 one", "a 1", "0 1\n", "0\n1", "0 1/2"):
        found.append(f"turn {text}")
    return found + ["turn", "turn0 1", "0 turn 1", "TURN 0 1", "help", "quit", "put", "a", "of", "2 of 2", "put two", "none", "ok", "undo undo", "\u0000", "\u00e9"]


class Signatures(unittest.TestCase):
    def test_places(self):
        self.assertEqual(Console.__module__, "purepowers.console")
        self.assertIs(console_file.Console, Console)
        self.assertIn("say", vars(Console))
        self.assertEqual(list(inspect.signature(Console).parameters), [])
        self.assertEqual(list(inspect.signature(Console().say).parameters), ["line"])
        self.assertEqual(Console().say(line="number"), "2")

    def test_examples_of_the_document(self):
        console = Console()
        lines = ("put 2", "put 3", "degree", "take -64", "splits 4", "why 6", "why 8", "next 4", "parts 4", "always", "put 3", "roots", "undo", "degree")
        self.assertEqual(
            [console.say(line) for line in lines],
            ["ok", "ok", "6", "ok", "yes", "power 3 -4", "four 2", "6", "2 2", "no", "InvalidNumber", "2 of 2; 3 of 2", "ok", "2"],
        )
        assert_told(self, InvalidLine, "take 2/4", console.say, "take 2/4")


class WrongLines(unittest.TestCase):
    def test_no_lines(self):
        console = console_with("put 2", "take -3/4", "take 3", "put 3")
        for line in no_lines():
            assert_told(self, InvalidLine, line, console.say, line)
            assert_told(self, InvalidLine, line, console.say, line=line)
        for value in no_integers() + no_roots() + [1, b"number", ["number"], ("number",), ("put", 2)]:
            if not isinstance(value, str) or value not in ("number",):
                assert_told(self, InvalidLine, value, console.say, value)
        self.assertEqual(seen(console), ["3", "2 of 2; 3 of 3", "6", "2 of 2", "2", "none", "1"])

    def test_new_consoles_take_nothing_back(self):
        console = Console()
        for line in no_lines():
            assert_told(self, InvalidLine, line, console.say, line)
        self.assertEqual(seen(console), ["2", "none", "1"])


class Numbers(unittest.TestCase):
    def test_take_and_number(self):
        console = Console()
        self.assertEqual(console.say("number"), "2")
        for number in small_numbers(9) + list(GREAT):
            self.assertEqual(console.say(f"take {text_of(number)}"), "ok")
            self.assertEqual(console.say("number"), text_of(number))

    def test_answers_about_numbers(self):
        powers = [as_power(base, n) for base, n in some_powers()[::11]]
        console = Console()
        for number in [*NUMBERS, *small_numbers(5), *GREAT[:6], *powers]:
            console.say(f"take {text_of(number)}")
            self.assertEqual(console.say("always"), "yes" if is_always_whole(number) else "no")
            self.assertEqual(console.say("times"), str(least_times(number)))
            for n in (1, 2, 3, 4, 6, 12, 35, 97, 1000, 1001, 10 ** 6, 10 ** 6 + 1, SIZE - 1, SIZE):
                self.assertEqual(console.say(f"splits {n}"), "yes" if splits(number, n) else "no")
                following = next_split(number, n)
                self.assertEqual(console.say(f"next {n}"), "never" if following is None else str(following))
                self.assertEqual(console.say(f"why {n}"), reason_text(number, n))
                told = [degree for degree, many in parts(number, n) for _ in range(many)] if n <= 1000 else None
                self.assertEqual(console.say(f"parts {n}"), " ".join([str(degree) for degree in told]) if told else "InvalidDegree")
            self.assertEqual(console.say("number"), text_of(number))

    def test_told_ones(self):
        told = {
            "8": {"splits 6": "yes", "why 6": "power 3 2", "why 4": "whole", "next 1": "3", "next 6": "9", "always": "no", "parts 6": "2 4", "times": "3"},
            "64": {"parts 6": "1 1 2 2", "why 9": "power 3 4", "times": "3", "splits 1": "no", "next " + str(SIZE): str(SIZE + 2)},
            "-4": {"why 4": "four 1", "splits 2": "no", "next 1": "4", "parts 4": "2 2", "times": "3", "parts 1": "1"},
            "2/3": {"why 7": "whole", "always": "yes", "next 5": "never", "next 1": "never", "parts 1000": "1000", "times": "1"},
            "1": {"parts 6": "1 1 2 2", "why 1": "whole", "why 999983": "power 999983 1", "times": "2", "next 1": "2", "always": "no"},
            "-1": {"parts 4": "4", "why 6": "power 3 -1", "next 3": "5", "next 4": "5", "splits 1024": "no", "splits 1025": "yes"},
            "-1/4": {"why 8": "four 1/2", "always": "no"}, "-27/8": {"why 3": "power 3 -3/2", "parts 6": "2 4"},
        }
        for text, answers in told.items():
            console = console_with(f"take {text}")
            for line, answer in answers.items():
                with self.subTest(text, line=line):
                    self.assertEqual(console.say(line), answer)

    def test_degrees_beyond_the_bounds(self):
        for number in NUMBERS:
            console = console_with(f"take {text_of(number)}")
            for word, most in (("splits", SIZE), ("why", 10 ** 6), ("next", SIZE), ("parts", 1000)):
                for text in FAR + (str(most + 1), str(10 * most)):
                    self.assertEqual(console.say(f"{word} {text}"), "InvalidDegree")
                self.assertNotEqual(console.say(f"{word} {most}"), "InvalidDegree")
                self.assertNotEqual(console.say(f"{word} 1"), "InvalidDegree")
            self.assertEqual(seen(console), [text_of(number), "none", "1"])


def reason_text(number, n):
    if n > 10 ** 6:
        return "InvalidDegree"
    reason = why(number, n)
    if reason is None:
        return "whole"
    return " ".join([str(part) for part in reason[:-1]] + [text_of(reason[-1])])


class Desks(unittest.TestCase):
    def test_as_a_desk(self):
        console, desk = Console(), Desk()
        number = (2, 1)
        calls = {
            "put": lambda n: desk.put(Root(number, n)), "drop": lambda index: desk.drop(index), "undo": lambda: desk.undo(),
            "turn": lambda index, many: desk.turn(index, many),
        }
        lines = [
            "put 2", "put 3", "turn 0 3", "take 3/5", "put 6", "drop 1", "undo", "undo", "put 60", "put 61", "put 0", "put -1", "take 1", "put 7", "put 8",
            "put 9", "put 10", "put 61", "turn 4 0", "turn 4 21", "turn 4 -21", "turn 5 2", "turn -1 2", "turn 0 20", "turn 0 -20", "drop 5", "drop -1",
            "drop 4", "undo", "take -8", "put 3", "put 100", "undo", "undo", "turn 0 1", "undo", f"take {SIZE}", "undo", "undo", "undo", "put 1", "turn 2 2",
            "turn 2 -2", "turn 2 1", "drop 0", "drop 0", "drop 0", "drop 0", "undo", "undo", "undo", "undo", "undo", "undo", "undo", "undo", "undo", "undo",
            "undo", "undo", "undo", "put 2", "take 7/11", "put 60", "put 59", "put 58", "put 57", "put 56", "drop 2", "turn 1 7", "turn 1 60",
        ]
        told = []
        for line in lines:
            word, *texts = line.split(" ")
            if word == "take":
                number = Fraction(texts[0]).as_integer_ratio()
                self.assertEqual(console.say(line), "ok")
            else:
                answer = error_of(lambda: calls[word](*[int(text) for text in texts]))
                self.assertEqual(console.say(line), answer, line)
                told.append(answer)
            self.assertEqual(console.say("roots"), "; ".join([str(root) for root in desk.roots]) or "none")
            self.assertEqual(console.say("degree"), str(desk.degree))
        self.assertEqual(set(told), {"ok", "InvalidDegree", "InvalidNumber", "InvalidIndex", "TooGreat", "NothingToUndo"})

    def test_each_error(self):
        console = console_with("put 2", "put 3", f"take {SIZE}", "put 1")
        told = {
            "put 0": "InvalidDegree", "put 61": "InvalidDegree", "put -2": "InvalidDegree", "drop 3": "InvalidIndex", "drop -1": "InvalidIndex",
            "turn 3 2": "InvalidIndex", "turn -1 2": "InvalidIndex", "turn 3 99": "InvalidIndex", "turn 0 21": "InvalidDegree", "turn 0 -21": "InvalidDegree",
            "turn 2 2": "TooGreat", "turn 2 -2": "TooGreat", "turn 2 21": "InvalidDegree", "drop " + "9" * 60: "InvalidIndex", "put " + "9" * 60: "InvalidDegree",
            "turn 0 " + "9" * 60: "InvalidDegree", "turn " + "9" * 60 + " 0": "InvalidIndex", "turn -" + "9" * 60 + " 0": "InvalidIndex",
        }
        for line, answer in told.items():
            self.assertEqual(console.say(line), answer, line)
        self.assertEqual(console.say("take -4"), "ok")
        for line in ("put 2", "put 61", "put 0", "put " + "9" * 40):
            self.assertEqual(console.say(line), "InvalidNumber")
        console.say("take 5")
        self.assertEqual([console.say("put 2"), console.say("put 2"), console.say("put 2"), console.say("put 61")], ["ok", "ok", "TooGreat", "InvalidDegree"])
        self.assertEqual(console.say("take -5"), "ok")
        self.assertEqual(console.say("put 2"), "InvalidNumber")
        self.assertEqual(seen(console)[:3], ["-5", f"2 of 2; 3 of 2; 1 of {SIZE}; 2 of 5; 2 of 5", "12"])
        self.assertEqual(console.say("undo"), "NothingToUndo")

    def test_bounds(self):
        for text in FAR:
            for line in (f"put {text}", f"drop {text}", f"turn {text} 1", f"turn 0 {text}"):
                console = console_with("put 2")
                answer = console.say(line)
                if text == "0" or (text.startswith("-") and text in ("-1", "-7") and line == f"turn 0 {text}"):
                    self.assertEqual(answer, "InvalidDegree" if line.startswith("put") else "ok")
                else:
                    self.assertEqual(answer, "InvalidIndex" if line in (f"drop {text}", f"turn {text} 1") else "InvalidDegree")
        for line in ("put 1", "put 60", "turn 0 20", "turn 0 -20", "drop 0", "turn 0 0"):
            self.assertEqual(console_with("put 2").say(line), "ok")

    def test_undo_leaves_the_number(self):
        console = console_with("put 2", "take 3", "put 2", "take 5")
        self.assertEqual(console.say("undo"), "ok")
        self.assertEqual((console.say("number"), console.say("roots")), ("5", "2 of 2"))

    def test_questions_can_not_be_taken_back(self):
        console = console_with("put 2")
        for line in ("number", "splits 2", "why 2", "next 2", "always", "parts 2", "times", "degree", "roots", "take 3", "drop 7"):
            console.say(line)
        self.assertEqual([console.say("undo"), console.say("undo"), console.say("number")], ["ok", "NothingToUndo", "3"])


class Several(unittest.TestCase):
    def test_two_consoles(self):
        one, other = Console(), Console()
        one.say("take 3")
        one.say("put 2")
        other.say("put 5")
        other.say("take -1/2")
        self.assertEqual(seen(one), ["3", "2 of 3", "2", "none", "1"])
        self.assertEqual(seen(other), ["-1/2", "5 of 2", "5", "none", "1"])

    def test_consoles_equal_themselves_alone(self):
        assert_alone(self, Console(), Console())
        self.assertFalse(Console() == Desk())
        self.assertTrue(Console())

    def test_the_same_lines_twice(self):
        lines = ("put 2", "take 8", "put 4", "degree", "roots", "parts 6", "turn 0 3", "roots", "undo", "times", "next 3", "drop 0", "roots")
        self.assertEqual([Console().say(line) for line in ("number", "roots")], [Console().say(line) for line in ("number", "roots")])
        one, other = Console(), Console()
        self.assertEqual([one.say(line) for line in lines], [other.say(line) for line in lines])
        for line in ("degree", "roots", "parts 6", "why 3", "number"):
            self.assertEqual(one.say(line), one.say(line))


if __name__ == "__main__":
    unittest.main()
