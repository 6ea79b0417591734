"""All errors that the package raises.

No class calls the `__init__` of its base: so the value that was passed stays with Python as the error's message.
"""


class WrongValue(ValueError):
    """The base of the errors about values of a wrong kind or form."""

    def __init__(self):
        pass


class InvalidText(WrongValue):
    """This is not the text of what was to be read."""

    def __init__(self, given):
        self.given = given


class InvalidName(WrongValue):
    """This is no name."""

    def __init__(self, given):
        self.given = given


class InvalidNumber(WrongValue):
    """This is no number, or none of those that are asked for."""

    def __init__(self, given):
        self.given = given


class InvalidDegree(WrongValue):
    """This is no integer, or not one of those that are asked for."""

    def __init__(self, given):
        self.given = given


class InvalidKind(WrongValue):
    """This is no kind, or no sign."""

    def __init__(self, given):
        self.given = given


class InvalidWish(WrongValue):
    """This is no wish."""

    def __init__(self, given):
        self.given = given


class InvalidIndex(WrongValue):
    """Nothing stands at this index."""

    def __init__(self, given):
        self.given = given


class InvalidLine(WrongValue):
    """The console knows no such line."""

    def __init__(self, given):
        self.given = given


class NotARoot(WrongValue):
    """This is no root."""

    def __init__(self, given):
        self.given = given


class InvalidLooks(WrongValue):
    """These are no looks; the index is that of the first wrong one."""

    def __init__(self, index):
        self.index = index


class InvalidRoots(WrongValue):
    """These are no roots of a tower; the index is that of the first wrong one."""

    def __init__(self, index):
        self.index = index


class InvalidDeeds(WrongValue):
    """These are no deeds; the index is that of the first wrong one."""

    def __init__(self, index):
        self.index = index


class WrongName(LookupError):
    """The base of the errors about names."""

    def __init__(self):
        pass


class UnknownName(WrongName):
    """There is nothing under this name."""

    def __init__(self, given):
        self.given = given


class NoAnswer(ArithmeticError):
    """The base of the errors about valid questions without an answer."""

    def __init__(self):
        pass


class NoNumber(NoAnswer):
    """No number fits."""

    def __init__(self):
        pass


class TooGreat(NoAnswer):
    """The answer would have this value, which is beyond the limit."""

    def __init__(self, given):
        self.given = given


class Broken(NoAnswer):
    """The wish with this index would not hold."""

    def __init__(self, index):
        self.index = index


class InUse(NoAnswer):
    """The wish with this index names what was to go."""

    def __init__(self, index):
        self.index = index


class NothingToUndo(NoAnswer):
    """There is no change that can be taken back."""

    def __init__(self):
        pass
