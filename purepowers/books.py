"""The book of numbers with wishes that hold behind each change."""

from purepowers.checks import check_index, check_number, has_form
from purepowers.errors import Broken, InUse, InvalidDeeds, InvalidName, UnknownName
from purepowers.histories import Moment, Trial
from purepowers.wishes import check_wish, holds, is_name_in, named_in

MOST_LETTERS = 8
DEEDS = (("put", 3), ("drop", 2), ("wish", 2), ("lift", 2))


class Book:
    """Numbers under names, and wishes about them in an order."""

    def __init__(self):
        self.now = Moment(({}, ()))

    def __eq__(self, other):
        # Also beside a value that by itself would be equal to all others.
        return self is other

    def __setitem__(self, name, number):
        if not _is_name(name):
            raise InvalidName(name)
        check_number(number)
        before, wishes_told = self.now.content
        numbers = {one: before[one] for one in before}
        numbers[name] = number
        for index, wish in enumerate(wishes_told):
            # What other wishes are about stays as it is.
            if name in named_in(wish) and not holds(wish, numbers):
                raise Broken(index)
        self.now = self.now.changed_to((numbers, wishes_told))

    def __getitem__(self, name):
        numbers, _ = self.now.content
        if not is_name_in(name, numbers):
            raise UnknownName(name)
        return numbers[name]

    def __contains__(self, value):
        numbers, _ = self.now.content
        return is_name_in(value, numbers)

    def __len__(self):
        return len(self.now.content[0])

    def __iter__(self):
        raise TypeError("a book can not be gone through")

    @property
    def names(self):
        """The names, ascending."""
        numbers, _ = self.now.content
        return tuple(sorted(list(numbers)))

    @property
    def wishes(self):
        """The wishes in their order."""
        return self.now.content[1]

    @property
    def changes(self):
        """How many changes can be taken back."""
        return self.now.many

    def drop(self, name):
        """Takes a name away."""
        before, wishes_told = self.now.content
        if not is_name_in(name, before):
            raise UnknownName(name)
        for index, wish in enumerate(wishes_told):
            if name in named_in(wish):
                raise InUse(index)
        numbers = {one: before[one] for one in before if one != name}
        self.now = self.now.changed_to((numbers, wishes_told))

    def wish(self, wish):
        """One wish more."""
        check_wish(wish)
        numbers, wishes_told = self.now.content
        if not holds(wish, numbers):
            raise Broken(len(wishes_told))
        self.now = self.now.changed_to((numbers, wishes_told + (wish,)))

    def lift(self, index):
        """Takes a wish away."""
        numbers, wishes_told = self.now.content
        check_index(index, len(wishes_told))
        self.now = self.now.changed_to((numbers, wishes_told[:index] + wishes_told[index + 1:]))

    def undo(self):
        """Takes back the last change."""
        self.now = self.now.taken_back()

    def do_all(self, *deeds, watch=None):
        """Does several changes, or none if an error comes out, and returns their number."""
        for index, deed in enumerate(deeds):
            if not has_form(deed, DEEDS):
                raise InvalidDeeds(index)
        before = self.now
        done = None
        try:
            for deed in deeds:
                self._do(deed)
                if watch is not None:
                    watch(self)
            done = len(deeds)
        finally:
            if done is None:
                self.now = before
        return done

    def _do(self, deed):
        """Does one change."""
        if deed[0] == "put":
            self[deed[1]] = deed[2]
        elif deed[0] == "drop":
            self.drop(deed[1])
        elif deed[0] == "wish":
            self.wish(deed[1])
        else:
            self.lift(deed[1])

    def trial(self):
        """For a `with` statement: behind it the book is as it was when its rows began."""
        return Trial(self)

    def tried(self, action):
        """What the function returns for the book, called within such a statement."""
        with self.trial() as book:
            return action(book)


def _is_name(value):
    """Whether the value is a name: a few letters from a to z."""
    if not isinstance(value, str) or not 1 <= len(value) <= MOST_LETTERS:
        return False
    return all(["a" <= letter <= "z" for letter in value])
