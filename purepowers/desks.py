"""The desk at which a tower is built."""

from purepowers.checks import check_index
from purepowers.errors import TooGreat
from purepowers.histories import Moment, Trial
from purepowers.limits import MOST_ROOTS
from purepowers.roots import check_root
from purepowers.towers import degree_of_any


class Desk:
    """A tower that is built, at first without roots."""

    def __init__(self):
        self.now = Moment(())

    def __eq__(self, other):
        # Also beside a value that by itself would be equal to all others.
        return self is other

    def put(self, root):
        """One root more, behind the others."""
        check_root(root)
        roots = self.now.content
        if len(roots) == MOST_ROOTS:
            raise TooGreat(MOST_ROOTS + 1)
        self.now = self.now.changed_to(roots + (root,))

    def drop(self, index):
        """This root goes."""
        roots = self.now.content
        check_index(index, len(roots))
        self.now = self.now.changed_to(roots[:index] + roots[index + 1:])

    def turn(self, index, many):
        """The power of this root in its place."""
        roots = self.now.content
        check_index(index, len(roots))
        turned = roots[index].raised(many)
        self.now = self.now.changed_to(roots[:index] + (turned,) + roots[index + 1:])

    @property
    def roots(self):
        """The tuple of the roots as they are now."""
        return self.now.content

    @property
    def degree(self):
        """The degree of the tower, 1 without roots."""
        return degree_of_any(self.now.content)

    @property
    def changes(self):
        """How many changes can be taken back."""
        return self.now.many

    def undo(self):
        """Takes back the last change."""
        self.now = self.now.taken_back()

    def trial(self):
        """For a `with` statement: behind it the desk is as it was when its rows began."""
        return Trial(self)

    def tried(self, action):
        """What the function returns for the desk, called within such a statement."""
        with self.trial() as desk:
            return action(desk)
