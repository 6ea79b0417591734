"""What can be taken back: by `undo`, and behind a trial."""

from purepowers.errors import NothingToUndo


class Moment:
    """What a desk or a book holds, and the moment before its last change, or None."""

    def __init__(self, content, before=None):
        self.content = content
        self.before = before
        self.many = 0 if before is None else before.many + 1

    def changed_to(self, content):
        """The moment behind one more change."""
        return Moment(content, self)

    def taken_back(self):
        """The moment before the last change."""
        if self.before is None:
            raise NothingToUndo()
        return self.before


class Entry:
    """One entry of a trial: the moment at which it began, and the entry around it, or None."""

    def __init__(self, moment, around):
        self.moment = moment
        self.around = around


class Trial:
    """For a `with` statement about a desk or a book: behind it all is as it was when its rows began."""

    def __init__(self, tried_on):
        self.tried_on = tried_on
        self.entry = None

    def __eq__(self, other):
        # Also beside a value that by itself would be equal to all others.
        return self is other

    def __enter__(self):
        self.entry = Entry(self.tried_on.now, self.entry)
        return self.tried_on

    def __exit__(self, kind, value, trace):
        tried_on = self.tried_on
        tried_on.now = self.entry.moment
        self.entry = self.entry.around
