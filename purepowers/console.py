"""The console: a desk and a number, by lines."""

from purepowers.checks import are_digits
from purepowers.counting import least_times, next_split
from purepowers.desks import Desk
from purepowers.errors import (
    InvalidDegree, InvalidIndex, InvalidLine, InvalidNumber, InvalidText, NothingToUndo, TooGreat,
)
from purepowers.numbers import number_text, read_number
from purepowers.roots import Root
from purepowers.splitting import is_always_whole, parts, splits, why


def _take(console, number):
    console.taken = number
    return "ok"


def _tell_number(console):
    return number_text(console.taken)


def _tell_splits(console, n):
    return _yes_or_no(splits(console.taken, n))


def _tell_why(console, n):
    reason = why(console.taken, n)
    if reason is None:
        return "whole"
    if reason[0] == "four":
        return f"four {number_text(reason[1])}"
    return f"power {reason[1]} {number_text(reason[2])}"


def _tell_next(console, n):
    following = next_split(console.taken, n)
    return "never" if following is None else str(following)


def _tell_always(console):
    return _yes_or_no(is_always_whole(console.taken))


def _tell_parts(console, n):
    return " ".join([str(degree) for degree, many in parts(console.taken, n) for _ in range(many)])


def _tell_times(console):
    return str(least_times(console.taken))


def _put(console, n):
    console.desk.put(Root(console.taken, n))
    return "ok"


def _drop(console, index):
    console.desk.drop(index)
    return "ok"


def _turn(console, index, many):
    console.desk.turn(index, many)
    return "ok"


def _undo(console):
    console.desk.undo()
    return "ok"


def _tell_degree(console):
    return str(console.desk.degree)


def _tell_roots(console):
    if not console.desk.roots:
        return "none"
    return "; ".join([str(root) for root in console.desk.roots])


def _yes_or_no(truth):
    return "yes" if truth else "no"


# To the first word of each line how many more there are. All of them but that behind `take` are integers.
MORE_WORDS = {
    "take": 1, "number": 0, "splits": 1, "why": 1, "next": 1, "always": 0, "parts": 1, "times": 0,
    "put": 1, "drop": 1, "turn": 2, "undo": 0, "degree": 0, "roots": 0,
}
ACTIONS = {
    "take": _take, "number": _tell_number, "splits": _tell_splits, "why": _tell_why, "next": _tell_next,
    "always": _tell_always, "parts": _tell_parts, "times": _tell_times,
    "put": _put, "drop": _drop, "turn": _turn, "undo": _undo, "degree": _tell_degree, "roots": _tell_roots,
}


class Console:
    """A desk and one number, by lines."""

    def __init__(self):
        self.desk = Desk()
        self.taken = (2, 1)

    def __eq__(self, other):
        # Also beside a value that by itself would be equal to all others.
        return self is other

    def say(self, line):
        """The answer to the line."""
        if not isinstance(line, str):
            raise InvalidLine(line)
        word, *texts = line.split(" ")
        if MORE_WORDS.get(word) != len(texts):
            raise InvalidLine(line)
        values = [_value_of(word, text) for text in texts]
        if None in values:
            raise InvalidLine(line)
        action = ACTIONS[word]
        try:
            return action(self, *values)
        except InvalidNumber:
            return "InvalidNumber"
        except InvalidDegree:
            return "InvalidDegree"
        except InvalidIndex:
            return "InvalidIndex"
        except TooGreat:
            return "TooGreat"
        except NothingToUndo:
            return "NothingToUndo"


def _value_of(word, text):
    """The number or the integer that the text behind this word tells, or None."""
    if word != "take":
        return _integer_of(text)
    try:
        return read_number(text)
    except InvalidText:
        return None


def _integer_of(text):
    """The integer with this text, or None."""
    digits = text.removeprefix("-")
    if not are_digits(digits):
        return None
    # The only one that begins with a 0 is 0 itself, without a minus sign.
    if digits[0] == "0" and text != "0":
        return None
    return int(text)
