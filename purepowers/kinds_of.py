"""Kinds of numbers, and what looks at some equations tell about all others."""

from purepowers.checks import check_degree, check_number, is_between, is_sign
from purepowers.errors import InvalidKind, InvalidLooks, NoNumber
from purepowers.limits import MOST_LOOKED, MOST_LOOKS
from purepowers.numbers import odd_part
from purepowers.splitting import primes_of, steps_below, steps_of

MOST_PRIME = 997


def kind_of(number):
    """The kind of the number."""
    check_number(number)
    sign = 1 if number[0] > 0 else -1
    steps = steps_of(number)
    if steps is None:
        return sign, "all", False
    return _kind_by(sign, steps)


def splits_by(kind, n):
    """Whether the equation with n splits by this kind."""
    if not _is_kind(kind):
        raise InvalidKind(kind)
    check_degree(n, 1, MOST_LOOKED)
    sign, primes, is_four = kind
    if primes == "all":
        return n > 1 if sign == 1 else odd_part(n) > 1
    if is_four and n % 4 == 0:
        return True
    return any([n % prime == 0 for prime in primes])


def kind_for(looks):
    """A kind that fits the looks, or None."""
    _check_looks(looks)
    fitting = _fitting(looks)
    if not fitting:
        return None
    sign, reasons = fitting[0]
    # By all steps that there can be: so each look that splits has one.
    return _kind_by(sign, sorted({step for steps in reasons for step in steps}))


def verdict(looks, n):
    """What the looks tell about the equation with n: "surely" that it splits, "never", or "open"."""
    _check_looks(looks)
    check_degree(n, 1, MOST_LOOKED)
    return _verdict_by(_fitting_or_error(looks), _whole_ones(looks), n)


def best_look(looks, most):
    """The least n up to `most` about which the looks leave it open, or None."""
    _check_looks(looks)
    check_degree(most, 1, MOST_LOOKED)
    fitting = _fitting_or_error(looks)
    whole = _whole_ones(looks)
    for n in range(1, most + 1):
        if _verdict_by(fitting, whole, n) == "open":
            return n
    return None


def signs_left(looks):
    """The signs of which some kind fits the looks, ascending."""
    _check_looks(looks)
    return tuple(sorted([sign for sign, reasons in _fitting(looks)]))


def _kind_by(sign, steps):
    """The kind with this sign and these steps."""
    return sign, tuple([step for step in steps if step != 4]), 4 in steps


def _is_kind(value):
    """Whether the value is a kind."""
    if not isinstance(value, tuple) or len(value) != 3:
        return False
    sign, primes, is_four = value
    if not is_sign(sign) or not isinstance(is_four, bool):
        return False
    if sign == 1 and is_four:
        return False
    if isinstance(primes, str):
        return primes == "all" and not is_four
    return _are_primes(primes) and (sign == 1 or 2 not in primes)


def _are_primes(values):
    """Whether this is an ascending tuple of primes up to the greatest one of kinds."""
    if not isinstance(values, tuple):
        return False
    last = 1
    for value in values:
        if not is_between(value, last + 1, MOST_PRIME) or primes_of(value) != [value]:
            return False
        last = value
    return True


def _check_looks(looks):
    """InvalidLooks if these are no looks."""
    if not isinstance(looks, tuple):
        raise InvalidLooks(None)
    for index, look in enumerate(looks):
        if index == MOST_LOOKS or not _is_look(look):
            raise InvalidLooks(index)


def _is_look(value):
    """Whether the value is a look: a pair (n, truth)."""
    if not isinstance(value, tuple) or len(value) != 2:
        return False
    return is_between(value[0], 1, MOST_LOOKED) and isinstance(value[1], bool)


def _whole_ones(looks):
    """All n whose equation was seen to be whole."""
    return [n for n, truth in looks if not truth]


def _fitting(looks):
    """A pair for each sign of which some kind fits the looks: the sign and its reasons.

    The reasons are, for each n that was seen to split, the list of the steps by which it can: a kind of this
    sign fits just if it has one or more of each list, and none that divides an n that was seen to be whole.
    """
    found = []
    whole = _whole_ones(looks)
    for sign in (1, -1):
        reasons = [_steps_left(sign, whole, n) for n, truth in looks if truth]
        if [] not in reasons:
            found.append((sign, reasons))
    return found


def _fitting_or_error(looks):
    """The same; NoNumber if there is no such sign."""
    fitting = _fitting(looks)
    if not fitting:
        raise NoNumber()
    return fitting


def _steps_left(sign, whole, n):
    """The list of the steps, as `steps_of` has them, that divide n but none of those that are whole."""
    primes = primes_of(n)
    steps = primes if sign == 1 else steps_below(primes, n % 4 == 0)
    return [step for step in steps if all([other % step != 0 for other in whole])]


def _verdict_by(fitting, whole, n):
    """The verdict on n, by the pairs of `_fitting` and the n that are whole."""
    if all([_has_to_split(reasons, n) for sign, reasons in fitting]):
        return "surely"
    if all([_steps_left(sign, whole, n) == [] for sign, reasons in fitting]):
        return "never"
    return "open"


def _has_to_split(reasons, n):
    """Whether the equation with n splits by each kind that has these reasons."""
    # If not, each list has a step that does not divide n, and these steps together are a kind that fits.
    return any([all([n % step == 0 for step in steps]) for steps in reasons])
