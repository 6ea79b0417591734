"""Wishes about the numbers of a book."""

from purepowers.checks import has_form, is_between
from purepowers.errors import InvalidWish
from purepowers.kinds_of import kind_of
from purepowers.limits import MOST_SIZE
from purepowers.splitting import is_always_whole, splits

FORMS = (("splits", 3), ("whole", 3), ("always", 2), ("alike", 3))


def check_wish(wish):
    """InvalidWish if this has no form of a wish, whatever stands in the places of names."""
    if not has_form(wish, FORMS):
        raise InvalidWish(wish)
    if wish[0] in ("splits", "whole") and not is_between(wish[2], 1, MOST_SIZE):
        raise InvalidWish(wish)


def named_in(wish):
    """The tuple of what stands in the places of names."""
    return wish[1:] if wish[0] == "alike" else wish[1:2]


def holds(wish, numbers):
    """Whether the wish holds for this dict of names and numbers."""
    if not all([is_name_in(name, numbers) for name in named_in(wish)]):
        return False
    number = numbers[wish[1]]
    if wish[0] == "splits":
        return splits(number, wish[2])
    if wish[0] == "whole":
        return not splits(number, wish[2])
    if wish[0] == "always":
        return is_always_whole(number)
    return kind_of(number) == kind_of(numbers[wish[2]])


def is_name_in(value, numbers):
    """Whether the value, of whatever kind, is one of the names of this dict."""
    return isinstance(value, str) and value in numbers
