import unittest

from purepowers import books
from purepowers.books import Book
from purepowers.errors import (
    Broken, InUse, InvalidDeeds, InvalidIndex, InvalidName, InvalidNumber, InvalidWish, NothingToUndo, UnknownName,
)
from purepowers.kinds_of import kind_of
from purepowers.splitting import is_always_whole, splits
from some_numbers import GREAT, SIZE, small_numbers
from wrong_values import Stranger, assert_alone, assert_each_argument, assert_told, no_integers, no_numbers, raised_by, told_as_given

NUMBERS = ((64, 1), (-64, 1), (2, 1), (-9, 1), (1, 1), (-1, 1), (8, 27), (-4, 81), (SIZE, 1), (1, SIZE), (SIZE - 1, SIZE), (16, 1), (32, 1))


def book_with(numbers, *wishes):
    book = Book()
    for name, number in numbers.items():
        book[name] = number
    for wish in wishes:
        book.wish(wish)
    return book


def now(book):
    return {name: book[name] for name in book.names}, book.wishes, book.changes


def seen(book):
    """All that a book shows, and what can be taken back."""
    with book.trial():
        found = [now(book)]
        while book.changes:
            book.undo()
            found.append(now(book))
    return found


def put(book, name, number):
    book[name] = number


def no_names():
    """Values that are no names."""
    texts = ["", "A", "aB", "a b", " a", "a ", "a\n", "a1", "1", "a_b", "a-b", "abcdefghi", "abcdefghijklmnop", "\u00e4", "\u00df", "a\u0301", "`", "{", "a{"]
    kinds = [value for value in no_integers() if not isinstance(value, str)]
    return kinds + texts + [1, (1, 2), b"a", ("a",), ["a"], {"a": 1}, "main.", "@"]


def no_wishes():
    """Values that have none of the forms of wishes."""
    words = [("", "a"), ("Always", "a"), ("always ", "a"), ("holds", "a"), ("not", "a", 2), ("in", "a", "b"), (b"always", "a"), ("alwaysalike", "a")]
    lengths = [
        (), ("splits",), ("splits", "a"), ("splits", "a", 2, 3), ("whole", "a"), ("whole", "a", 2, None), ("always",), ("always", "a", "b"),
        ("always", "a", 2), ("alike",), ("alike", "a"), ("alike", "a", "b", "c"), (("always", "a"),), ("always", "a", None),
    ]
    lists = [["always", "a"], ["splits", "a", 2], {"always": "a"}, "always a", "always", [("always", "a")]]
    degrees = [(word, "a", n) for word in ("splits", "whole") for n in no_integers() + [0, -1, SIZE + 1, 10 ** 60, "2", (2,), [2]]]
    firsts = [(value, "a") for value in no_integers()] + [(value, "a", 2) for value in no_integers()]
    return no_integers() + words + lengths + lists + degrees + firsts


class Signatures(unittest.TestCase):
    def test_places(self):
        self.assertEqual(Book.__module__, "purepowers.books")
        self.assertIs(books.Book, Book)
        names = (
            "__setitem__", "__getitem__", "__contains__", "__len__", "names", "wishes", "drop", "wish", "lift", "undo", "changes",
            "do_all", "trial", "tried",
        )
        for name in names:
            self.assertIn(name, vars(Book))

    def test_by_name(self):
        book = book_with({"a": (4, 1)})
        self.assertIsNone(book.wish(wish=("splits", "a", 2)))
        self.assertIsNone(book.lift(index=0))
        self.assertIsNone(book.drop(name="a"))
        self.assertEqual(book.tried(action=lambda one: one.changes), 4)
        self.assertEqual(book.do_all(("put", "a", (2, 1)), watch=None), 1)
        self.assertEqual(book.do_all(watch=None), 0)

    def test_examples_of_the_document(self):
        book = Book()
        self.assertEqual(
            [book.do_all(("put", "main", (64, 1)), ("wish", ("splits", "main", 10 ** 30)), ("wish", ("whole", "main", 35))), book.names,
             book.changes],
            [3, ("main",), 3],
        )
        self.assertEqual(raised_by(self, Broken, book.do_all, ("put", "main", (16, 1)), ("put", "main", (32, 1))).index, 1)


class Numbers(unittest.TestCase):
    def test_a_new_book(self):
        book = Book()
        self.assertEqual((len(book), book.names, book.wishes, book.changes), (0, (), (), 0))
        self.assertFalse(book)
        raised_by(self, NothingToUndo, book.undo)
        with self.assertRaises(TypeError):
            Book(())

    def test_put(self):
        book = Book()
        for many, number in enumerate(NUMBERS, start=1):
            name = "abcdefghijklmnopqrstuvwxyz"[-many]
            book[name] = number
            self.assertIs(book[name], number)
            self.assertEqual((len(book), book.changes), (many, many))
            self.assertTrue(book)
            self.assertEqual(book.names, tuple(sorted(book.names)))
            self.assertIn(name, book.names)

    def test_names_ascend(self):
        book = Book()
        names = ["zz", "b", "a", "ab", "aa", "zzzzzzzz", "m", "abcdefgh", "z", "ba"]
        for name in names:
            book[name] = (2, 1)
        self.assertEqual(book.names, ("a", "aa", "ab", "abcdefgh", "b", "ba", "m", "z", "zz", "zzzzzzzz"))
        self.assertIs(book.names.__class__, tuple)

    def test_in_the_place_of_others(self):
        book = book_with({"a": (2, 1), "b": (3, 1)})
        book["a"] = (5, 7)
        self.assertEqual((book["a"], book["b"], len(book), book.changes), ((5, 7), (3, 1), 2, 3))
        book["a"] = (5, 7)
        self.assertEqual((book["a"], len(book), book.changes), ((5, 7), 2, 4))

    def test_drop(self):
        book = book_with({"a": (2, 1), "b": (3, 1)})
        self.assertIsNone(book.drop("a"))
        self.assertEqual((book.names, book.changes, len(book)), (("b",), 3, 1))
        self.assertEqual(raised_by(self, UnknownName, book.drop, "a").given, "a")
        book.drop("b")
        self.assertFalse(book)
        self.assertEqual((book.names, book.changes), ((), 4))

    def test_many_names(self):
        letters = "abcdefghijklmnopqrst"
        names = [one + other for one in letters for other in letters]
        book = Book()
        self.assertEqual(book.do_all(*[("put", name, (2, 1)) for name in names]), 400)
        self.assertEqual(book.names, tuple(names))

    def test_names_of_all_forms(self):
        for name in ("a", "z", "abcdefgh", "zzzzzzzz", "splits", "always", "put", "none"):
            book = book_with({name: (2, 1)})
            self.assertIn(name, book)
            self.assertEqual(book[name], (2, 1))

    def test_wrong_names_and_numbers(self):
        book = book_with({"a": (2, 1)})
        before = seen(book)
        for wrong in no_names():
            self.assertIs(raised_by(self, InvalidName, put, book, wrong, (2, 1)).given, wrong)
            self.assertIs(raised_by(self, InvalidName, put, book, wrong, (2, 4)).given, wrong)
            self.assertIs(raised_by(self, InvalidName, book.do_all, ("put", wrong, None)).given, wrong)
        for wrong in no_numbers():
            self.assertIs(raised_by(self, InvalidNumber, put, book, "a", wrong).given, wrong)
            self.assertIs(raised_by(self, InvalidNumber, put, book, "b", wrong).given, wrong)
            self.assertIs(raised_by(self, InvalidNumber, book.do_all, ("put", "b", wrong)).given, wrong)
        self.assertEqual(seen(book), before)

    def test_unknown_names(self):
        book = book_with({"a": (2, 1), "one": (3, 1)})
        before = seen(book)
        for wrong in no_names() + ["b", "aa", "aone", "names", (2, 1)]:
            self.assertIs(raised_by(self, UnknownName, lambda: book[wrong]).given, wrong)
            assert_told(self, UnknownName, wrong, book.drop, wrong)
            assert_told(self, UnknownName, wrong, book.drop, name=wrong)
            self.assertIs(wrong in book, False)
            self.assertIs(raised_by(self, UnknownName, book.do_all, ("drop", wrong)).given, wrong)
        self.assertIs("a" in book, True)
        self.assertIs("one" in book, True)
        self.assertIs("one" not in book, False)
        self.assertEqual(seen(book), before)

    def test_books_equal_themselves_alone(self):
        assert_alone(self, book_with({"a": (2, 1)}), book_with({"a": (2, 1)}))
        assert_alone(self, Book(), Book())
        self.assertFalse(book_with({"a": (2, 1)}) == {"a": (2, 1)})

    def test_two_books(self):
        one, other = book_with({"a": (4, 1)}), book_with({"a": (8, 1)})
        one["b"] = (2, 1)
        one.wish(("splits", "a", 2))
        other.drop("a")
        self.assertEqual(now(one), ({"a": (4, 1), "b": (2, 1)}, (("splits", "a", 2),), 3))
        self.assertEqual(now(other), ({}, (), 2))


class Wishes(unittest.TestCase):
    def test_in_their_order_as_they_were_passed(self):
        book = book_with({"a": (64, 1), "b": (64, 729), "c": (2, 1)})
        wishes = [
            ("splits", "a", 6), ("whole", "a", 35), ("always", "c"), ("alike", "a", "b"), ("splits", "a", 6), ("alike", "c", "c"),
            ("whole", "b", 1), ("splits", "b", SIZE),
        ]
        for many, wish in enumerate(wishes, start=1):
            self.assertIsNone(book.wish(wish))
            self.assertEqual((book.wishes, book.changes), (tuple(wishes[:many]), 3 + many))
            self.assertIs(book.wishes[-1], wish)
        self.assertIs(book.wishes.__class__, tuple)

    def test_truth(self):
        numbers = [*NUMBERS, *GREAT[:4], *small_numbers(4)]
        book = Book()
        for number in numbers:
            book["a"] = number
            told = [(("always", "a"), is_always_whole(number)), (("alike", "a", "a"), True)]
            for n in (1, 2, 3, 4, 6, 12, 35, 97, SIZE - 1, SIZE):
                told = told + [(("splits", "a", n), splits(number, n)), (("whole", "a", n), not splits(number, n))]
            for other in numbers[::3]:
                book["b"] = other
                told_now = told + [(("alike", "a", "b"), kind_of(number) == kind_of(other)), (("alike", "b", "a"), kind_of(number) == kind_of(other))]
                for wish, truth in told_now:
                    if truth:
                        book.wish(wish)
                        book.undo()
                    else:
                        self.assertEqual(raised_by(self, Broken, book.wish, wish).index, 0)

    def test_broken_has_the_index_that_it_would_have(self):
        book = book_with({"a": (4, 1)})
        for many in range(5):
            before = seen(book)
            self.assertEqual(raised_by(self, Broken, book.wish, ("whole", "a", 2)).index, many)
            self.assertEqual(raised_by(self, Broken, book.wish, wish=("always", "a")).index, many)
            self.assertEqual(seen(book), before)
            book.wish(("splits", "a", 2))

    def test_about_something_that_is_not_there(self):
        book = book_with({"a": (4, 1), "c": (2, 1)}, ("splits", "a", 2))
        before = seen(book)
        for value in no_names() + ["b", "aa", "one", (2, 1), (4, 1), ("a",)]:
            for wish in (("splits", value, 2), ("whole", value, 2), ("always", value), ("alike", value, "a"), ("alike", "a", value), ("alike", value, value)):
                self.assertEqual(raised_by(self, Broken, book.wish, wish).index, 1)
        self.assertEqual(seen(book), before)

    def test_no_wishes(self):
        book = book_with({"a": (4, 1)}, ("splits", "a", 2))
        before = seen(book)
        for wrong in no_wishes():
            assert_told(self, InvalidWish, wrong, book.wish, wrong)
            assert_told(self, InvalidWish, wrong, book.wish, wish=wrong)
        for value in no_integers():
            for word in ("splits", "whole"):
                wrong = (word, value, 0)
                assert_told(self, InvalidWish, wrong, book.wish, wrong)
        self.assertEqual(seen(book), before)
        assert_each_argument(self, book.wish, (("splits", "a", 2), InvalidWish, "given", told_as_given(no_wishes())))

    def test_bounds_of_the_degree(self):
        book = book_with({"a": (4, 1)})
        book.wish(("whole", "a", 1))
        book.wish(("splits", "a", SIZE))
        self.assertEqual(len(book.wishes), 2)

    def test_lift(self):
        wishes = [("splits", "a", 2), ("whole", "a", 1), ("alike", "a", "a"), ("splits", "a", 2)]
        for index in range(4):
            book = book_with({"a": (4, 1)}, *wishes)
            self.assertIsNone(book.lift(index))
            self.assertEqual((book.wishes, book.changes), (tuple(wishes[:index] + wishes[index + 1:]), 6))
        book = book_with({"a": (4, 1)}, *wishes)
        before = seen(book)
        for wrong in no_integers() + [-1, -4, 4, 5, SIZE, -SIZE, "0", (0,), ("splits", "a", 2)]:
            assert_told(self, InvalidIndex, wrong, book.lift, wrong)
            assert_told(self, InvalidIndex, wrong, book.lift, index=wrong)
        self.assertEqual(seen(book), before)
        for wrong in (0, -1, True, False):
            assert_told(self, InvalidIndex, wrong, Book().lift, wrong)


class Keeping(unittest.TestCase):
    """All wishes hold behind each change."""

    def setUp(self):
        self.book = book_with(
            {"a": (64, 1), "b": (64, 729), "c": (2, 1), "d": (4, 1)},
            ("always", "c"), ("splits", "a", 2), ("splits", "a", 3), ("alike", "a", "b"), ("whole", "a", 35), ("whole", "c", 4),
        )
        self.before = seen(self.book)

    def check_broken(self, index, name, number):
        self.assertEqual(raised_by(self, Broken, put, self.book, name, number).index, index)
        self.assertEqual(raised_by(self, Broken, self.book.do_all, ("put", name, number)).index, index)
        self.assertEqual(seen(self.book), self.before)

    def test_the_first_that_would_not_hold(self):
        self.check_broken(0, "c", (4, 1))
        self.check_broken(0, "c", (-4, 1))
        self.check_broken(0, "c", (1, 1))
        self.check_broken(1, "a", (8, 1))
        self.check_broken(1, "a", (2, 1))
        self.check_broken(2, "a", (4, 1))
        self.check_broken(2, "a", (1024, 1))
        self.check_broken(3, "a", (1, 1))
        self.check_broken(3, "a", (2 ** 30, 1))
        self.check_broken(3, "b", (4, 1))
        self.check_broken(3, "b", (-64, 1))

    def test_errors_in_their_order(self):
        assert_told(self, InvalidName, "C", put, self.book, "C", (4, 1))
        wrong = (8, 2)
        self.assertIs(raised_by(self, InvalidNumber, put, self.book, "c", wrong).given, wrong)
        self.assertEqual(seen(self.book), self.before)

    def test_numbers_that_keep_them(self):
        for name, number in (("c", (-2, 1)), ("c", (2, 3)), ("a", (729, 64)), ("b", (2 ** 12, 1)), ("d", (1, 1)), ("d", (2, 1)), ("e", (4, 1)), ("a", (64, 1))):
            self.book[name] = number
            self.assertEqual(self.book[name], number)

    def test_names_in_use(self):
        for name, index in (("a", 1), ("b", 3), ("c", 0)):
            self.assertEqual(raised_by(self, InUse, self.book.drop, name).index, index)
            self.assertEqual(raised_by(self, InUse, self.book.drop, name=name).index, index)
        self.assertEqual(seen(self.book), self.before)
        self.book.drop("d")
        self.book.lift(3)
        self.book.drop("b")
        self.book.lift(0)
        self.assertEqual(raised_by(self, InUse, self.book.drop, "c").index, 3)
        self.book.lift(3)
        self.book.drop("c")
        self.assertEqual(self.book.names, ("a",))

    def test_an_undo_gives_back_what_held(self):
        while self.book.changes:
            self.book.undo()
            for index, wish in enumerate(self.book.wishes):
                # Each one could be told once more.
                self.book.tried(lambda book: book.wish(wish))

    def test_alike_with_itself(self):
        book = book_with({"a": (4, 1)}, ("alike", "a", "a"))
        book["a"] = (2, 1)
        self.assertEqual(raised_by(self, InUse, book.drop, "a").index, 0)


class Undoing(unittest.TestCase):
    def test_each_change(self):
        book = Book()
        states = [now(book)]
        changes = [
            lambda: put(book, "a", (4, 1)), lambda: book.wish(("splits", "a", 2)), lambda: put(book, "b", (9, 1)), lambda: put(book, "a", (16, 1)),
            lambda: book.wish(("alike", "a", "b")), lambda: book.lift(0), lambda: book.lift(0), lambda: book.drop("a"), lambda: put(book, "b", (9, 1)),
            lambda: book.wish(("splits", "b", 2)), lambda: book.wish(("splits", "b", 2)), lambda: book.lift(1), lambda: put(book, "a", (2, 1)),
        ]
        for change in changes:
            change()
            states.append(now(book))
            self.assertEqual(book.changes, len(states) - 1)
        for many in range(len(changes), 0, -1):
            self.assertEqual(now(book), states[many])
            self.assertIsNone(book.undo())
        self.assertEqual(now(book), states[0])
        for _ in range(2):
            raised_by(self, NothingToUndo, book.undo)
        self.assertEqual(now(book), states[0])

    def test_changes_that_leave_all_as_it_was(self):
        book = book_with({"a": (4, 1)})
        book["a"] = (4, 1)
        self.assertEqual(book.changes, 2)
        book.undo()
        self.assertEqual(now(book), ({"a": (4, 1)}, (), 1))

    def test_changes_behind_an_undo(self):
        book = book_with({"a": (4, 1), "b": (2, 1)})
        book.undo()
        book["c"] = (3, 1)
        book.undo()
        self.assertEqual(now(book), ({"a": (4, 1)}, (), 1))

    def test_what_was_seen_stays_as_it_was(self):
        book = book_with({"a": (4, 1)}, ("splits", "a", 2))
        names, wishes = book.names, book.wishes
        book["b"] = (2, 1)
        book.lift(0)
        self.assertEqual((names, wishes), (("a",), (("splits", "a", 2),)))

    def test_many_changes(self):
        book = Book()
        for _ in range(50000):
            book["a"] = (4, 1)
        self.assertEqual(book.changes, 50000)
        for _ in range(20000):
            book.undo()
        self.assertEqual(now(book), ({"a": (4, 1)}, (), 30000))


class Left(Exception):
    pass


def no_deeds():
    """Pairs of deeds and of the index of the first that has no form."""
    good = ("put", "a", (2, 1))
    wrong = no_integers() + [
        ("put",), ("put", "a"), ("put", "a", (2, 1), None), ("drop",), ("drop", "a", "b"), ("wish",), ("wish", "always", "a"), ("lift",), ("lift", 0, 1),
        ("undo",), ("Put", "a", (2, 1)), ("put ", "a", (2, 1)), (b"put", "a", (2, 1)), ["put", "a", (2, 1)], ["drop", "a"], (("drop", "a"),), (),
        ("always", "a"), ("do_all", good), "drop", ("drops", "a"), (None, "a"), (Stranger(), "a"), ({}, "a"), (["drop"], "a"), ("", "a"), ("", "a", (2, 1)),
    ]
    pairs = [((deed,), 0) for deed in wrong] + [((good, deed, good), 1) for deed in wrong] + [((good, good, deed, None), 2) for deed in wrong]
    return pairs + [((good,) * 30 + (None,) * 2, 30), (([good],), 0), (((good, good),), 0)]


class DoingAll(unittest.TestCase):
    def setUp(self):
        self.book = book_with({"a": (4, 1)}, ("splits", "a", 2))
        self.before = seen(self.book)

    def test_no_deeds(self):
        self.assertEqual(self.book.do_all(), 0)
        self.assertEqual(self.book.do_all(watch=lambda book: book.undo()), 0)
        self.assertEqual(seen(self.book), self.before)

    def test_several(self):
        deeds = (
            ("put", "b", (9, 1)), ("wish", ("alike", "a", "b")), ("put", "a", (16, 1)), ("lift", 1), ("lift", 0), ("drop", "a"),
            ("put", "b", (2, 1)), ("wish", ("always", "b")),
        )
        states = []
        self.assertEqual(self.book.do_all(*deeds, watch=lambda book: states.append(now(book))), 8)
        self.assertEqual(now(self.book), ({"b": (2, 1)}, (("always", "b"),), 10))
        self.assertEqual(len(states), 8)
        # Each one is taken back by itself.
        for state in states[::-1]:
            self.assertEqual(now(self.book), state)
            self.book.undo()
        self.assertEqual(seen(self.book), self.before)

    def test_as_one_by_one(self):
        deeds = (("put", "b", (9, 1)), ("wish", ("alike", "a", "b")), ("put", "a", (16, 1)), ("lift", 1), ("drop", "b"))
        self.assertEqual(self.book.do_all(*deeds), 5)
        other = book_with({"a": (4, 1)}, ("splits", "a", 2))
        other["b"] = (9, 1)
        other.wish(("alike", "a", "b"))
        other["a"] = (16, 1)
        other.lift(1)
        other.drop("b")
        self.assertEqual(seen(self.book), seen(other))

    def test_watch(self):
        given = []
        self.assertEqual(self.book.do_all(("put", "b", (9, 1)), ("drop", "b"), watch=lambda book: given.append((book, book.names))), 2)
        self.assertIs(given[0][0], self.book)
        self.assertEqual([names for _, names in given], [("a", "b"), ("a",)])
        self.assertEqual(self.book.do_all(("put", "b", (9, 1)), watch=None), 1)

    def test_no_deeds_at_all(self):
        watched = []
        for deeds, index in no_deeds():
            self.assertEqual(raised_by(self, InvalidDeeds, self.book.do_all, *deeds).index, index)
            self.assertEqual(raised_by(self, InvalidDeeds, self.book.do_all, *deeds, watch=watched.append).index, index)
        # Also ahead of the error of an earlier deed.
        self.assertEqual(raised_by(self, InvalidDeeds, self.book.do_all, ("drop", "zzz"), ("lift", 9), None).index, 2)
        self.assertEqual(watched, [])
        self.assertEqual(seen(self.book), self.before)

    def test_errors_of_deeds(self):
        good = ("put", "b", (9, 1))
        told = [
            (("put", "A", (2, 1)), InvalidName, "given", "A"), (("put", "b", (2, 4)), InvalidNumber, "given", (2, 4)),
            (("put", "a", (8, 1)), Broken, "index", 0), (("drop", "c"), UnknownName, "given", "c"), (("drop", "a"), InUse, "index", 0),
            (("wish", ("always",)), InvalidWish, "given", ("always",)), (("wish", ("always", "a")), Broken, "index", 1),
            (("lift", 1), InvalidIndex, "given", 1), (("lift", True), InvalidIndex, "given", True), (("wish", None), InvalidWish, "given", None),
        ]
        for deed, error, attribute, value in told:
            for deeds in ((deed,), (good, deed), (good, deed, ("drop", "zzz")), (good, ("drop", "b"), deed, good)):
                many = []
                self.assertEqual(getattr(raised_by(self, error, self.book.do_all, *deeds), attribute), value)
                raised_by(self, error, self.book.do_all, *deeds, watch=lambda book: many.append(book.changes))
                self.assertEqual(many, [3, 4, 5][:deeds.index(deed)])
                self.assertEqual(seen(self.book), self.before)

    def test_errors_of_watch(self):
        deeds = (("put", "b", (9, 1)), ("put", "c", (9, 1)), ("lift", 0))
        for many in (1, 2, 3):
            for error in (Left(), ValueError("a word"), KeyboardInterrupt(), InUse(7)):
                called = []

                def watch(book):
                    called.append(book.changes)
                    if len(called) == many:
                        raise error

                self.assertIs(raised_by(self, error.__class__, self.book.do_all, *deeds, watch=watch), error)
                self.assertEqual(called, [3, 4, 5][:many])
                self.assertEqual(seen(self.book), self.before)

    def test_within_one_another(self):
        def watch(book):
            with book.trial():
                book.do_all(("put", "z", (2, 1)), ("put", "y", (2, 1)))

        self.assertEqual(self.book.do_all(("put", "b", (9, 1)), ("put", "c", (9, 1)), watch=watch), 2)
        self.assertEqual(self.book.names, ("a", "b", "c"))
        self.assertEqual(self.book.changes, 4)


class Trials(unittest.TestCase):
    def setUp(self):
        self.book = book_with({"a": (4, 1), "b": (9, 1)}, ("splits", "a", 2), ("alike", "a", "b"))
        self.before = seen(self.book)

    def change_all(self, book):
        book.lift(1)
        book["b"] = (2, 1)
        book["c"] = (5, 1)
        book.wish(("always", "c"))
        book.drop("b")

    def test_by_with(self):
        with self.book.trial() as given:
            self.assertIs(given, self.book)
            self.change_all(given)
            self.assertEqual(now(given), ({"a": (4, 1), "c": (5, 1)}, (("splits", "a", 2), ("always", "c")), 9))
        self.assertEqual(seen(self.book), self.before)
        with self.book.trial():
            while self.book.changes:
                self.book.undo()
            self.book["z"] = (1, 1)
        self.assertEqual(seen(self.book), self.before)

    def test_left_by_exceptions(self):
        for error in (Left(), KeyError("a"), KeyboardInterrupt()):
            with self.assertRaises(error.__class__) as caught:
                with self.book.trial():
                    self.change_all(self.book)
                    raise error
            self.assertIs(caught.exception, error)
            self.assertEqual(seen(self.book), self.before)
        with self.assertRaises(Broken):
            with self.book.trial() as book:
                book["c"] = (2, 1)
                book["a"] = (2, 1)
        self.assertEqual(seen(self.book), self.before)

    def leave_by_return(self):
        with self.book.trial() as book:
            self.change_all(book)
            return book.names

    def test_left_by_return(self):
        self.assertEqual(self.leave_by_return(), ("a", "c"))
        self.assertEqual(seen(self.book), self.before)

    def test_entered_twice_and_within_itself(self):
        trial = self.book.trial()
        for _ in range(2):
            with trial as book:
                book.undo()
                inner = seen(book)
                with trial:
                    self.change_all_without_lift(book)
                    with self.book.trial():
                        book.drop("c")
                    self.assertIn("c", book)
                self.assertEqual(seen(book), inner)
            self.assertEqual(seen(self.book), self.before)
        self.book.lift(0)
        later = seen(self.book)
        with trial:
            self.book["q"] = (7, 1)
        self.assertEqual(seen(self.book), later)

    def change_all_without_lift(self, book):
        book["c"] = (5, 1)
        book["b"] = (2, 1)

    def test_trials_equal_themselves_alone(self):
        assert_alone(self, self.book.trial(), self.book.trial())
        self.assertTrue(self.book.trial())

    def test_tried(self):
        marker = object()
        self.assertIs(self.book.tried(lambda book: (self.change_all(book), marker)[1]), marker)
        self.assertEqual(self.book.tried(lambda book: (book.undo(), book.changes)[1]), 3)
        self.assertIs(self.book.tried(lambda book: book), self.book)
        error = Left()

        def action(book):
            book.undo()
            raise error

        self.assertIs(raised_by(self, Left, self.book.tried, action), error)
        self.assertEqual(raised_by(self, InUse, self.book.tried, lambda book: book.drop("a")).index, 0)
        self.assertEqual(seen(self.book), self.before)


if __name__ == "__main__":
    unittest.main()
