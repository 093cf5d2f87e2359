"""Points [52] to [57]: books, their steps, and what is asked of them."""

import unittest
from random import Random

from everyfloor.books import Book
from everyfloor.compare import Test, less
from everyfloor.errors import (
    BadName, BadNumber, BadPiece, BadText, Broken, Circle, EveryfloorError, InUse, NoSteps, Refused, TooFine, TooHigh,
    TooLate, UnknownName)
from everyfloor.formulas import Formula, unknown
from everyfloor.texts import read_formula, read_test
from tests.checks import NO_INTEGERS
from tests.grammar import RESERVED
from tests.plain_book import PlainBook, full
from tests.twins import Twins

n = unknown()
NO_NAMES = (
    *sorted(RESERVED), "", "N", "aB", "a1", "a_", "a b", " a", "a\n", "\n", "abcdefghijklm", "\u00e4", "-", None, True, 0,
    5, b"a", ("a",), ["a"], {"a": 1}, {"a"}, n, Book, object())
NO_KEPT = NO_NAMES + ("zz",)
FINE_TEXT, HIGH_TEXT, LATE_TEXT = "(n mod (700 + 21))", "((n ** 6) ** 2)", "abs((n - (1000 * 11)))"


class Mine(Exception):
    """An error of the caller's own."""


class Books(Twins):

    def setUp(self):
        self.book = Book()
        self.book.put("pages", "0")
        self.book.put("items", "(n * n)")
        self.book.put("pages", "((items + 9) // 10)")
        self.book.guard("enough", "(items <= (pages * 10))")

    def state(self, book):
        """All that can be seen of a book."""
        kept = [book.names, book.guards, len(book), book.page]
        for name in (*book.names, *book.guards):
            made = book[name]
            kept.append((name, book.spelled(name), made.text, book.needs(name), name in book))
            kept.append((made.below, made.pieces) if isinstance(made, Formula) else (made.holds, made.fails))
        return kept + [book.past(k).page for k in range(len(book) + 1)]

    def refused(self, error, fields, call, *args):
        """The step raises the error, and the book is as it was before."""
        kept = self.state(self.book)
        self.assert_error(error, fields, call, *args)
        self.assertEqual(self.state(self.book), kept)

    def refused_by(self, name, error, fields, call, *args):
        """The step raises Refused with the name and, as why, with the error."""
        kept = self.state(self.book)
        with self.assertRaises(Refused) as caught:
            call(*args)
        self.assertEqual((type(caught.exception), caught.exception.name), (Refused, name))
        self.assertEqual((type(caught.exception.why), vars(caught.exception.why)), (error, fields))
        self.assertEqual(self.state(self.book), kept)


class TestBooks(Books):

    def test_example(self):
        book = self.book
        self.assertEqual(book.needs("enough"), ("items", "pages"))
        self.refused(Broken, {"name": "enough", "n": 1}, book.put, "pages", "(items // 10)")
        self.assertEqual(book.moved("items", "(n * (n + 1))"), {"pages": 3, "items": 1})
        self.assertEqual(list(book.moved("items", "(n * (n + 1))")), ["pages", "items"])
        self.refused(Circle, {"name": "items"}, book.put, "items", "pages")

    def test_an_empty_book(self):
        book = Book()
        self.assertEqual((book.names, book.guards, len(book), book.page), ((), (), 0, ""))
        self.assertEqual((type(book.names), type(book.guards)), (tuple, tuple))
        self.assertNotIn("a", book)
        self.assert_error(NoSteps, {}, book.undo)
        self.assertEqual(book.past(0), book)
        self.assertEqual(Book.read(""), book)
        self.assert_error(UnknownName, {"name": "a"}, book.put, "b", "a")

    def test_what_is_asked(self):
        book = self.book
        self.assertEqual((book.names, book.guards, len(book)), (("pages", "items"), ("enough",), 4))
        self.assertEqual((book["items"], book["pages"]), (n * n, (n * n + 9) // 10))
        self.assertEqual(book["enough"].text, "((n * n) <= ((((n * n) + 9) // 10) * 10))")
        self.assertEqual((type(book["items"]), type(book["enough"])), (Formula, Test))
        self.assertEqual(book["pages"].text, "(((n * n) + 9) // 10)")
        self.assertEqual(book.spelled("pages"), "((items + 9) // 10)")
        self.assertEqual(book.spelled("enough"), "(items <= (pages * 10))")
        self.assertEqual([name in book for name in ("items", "enough", "zz", "n", "", 5, None)],
                         [True, True, False, False, False, False, False])
        self.assertEqual((book.needs("items"), book.needs("pages")), ((), ("items",)))
        self.assertIs(type(book.needs("items")), tuple)

    def test_names_that_are_not_there(self):
        for name in NO_KEPT:
            self.assertIs(name in self.book, False)
            for call in (lambda at: self.book[at], self.book.spelled, self.book.needs, self.book.drop,
                         lambda at: self.book.rename(at, 5)):
                self.refused(UnknownName, {"name": name}, call, name)

    def test_a_book_is_not_iterated_over(self):
        for use in (iter, list, lambda book: [*book], lambda book: dict(book)):
            with self.assertRaises(TypeError):
                use(self.book)

    def test_steps_return_nothing(self):
        book = Book()
        self.assertEqual([book.put("a", "n"), book.guard("b", "(0 <= a)"), book.rename("b", "c"), book.drop("c"),
                          book.undo()], [None] * 5)
        self.assertEqual(len(book), 3)

    def test_equal_books(self):
        other = Book()
        other.put("pages", "3")
        other.put("items", "(n * n)")
        other.put("pages", "((items + 9) // 10)")
        self.assertNotEqual(other, self.book)
        other.guard("enough", "(items <= (pages * 10))")
        self.assertEqual(other, self.book)
        other.rename("pages", "sheets")
        self.assertNotEqual(other, self.book)
        other.rename("sheets", "pages")
        self.assertEqual(other, self.book)
        other.put("items", "(n ** 2)")
        self.assertEqual(other["items"], self.book["items"])
        self.assertNotEqual(other, self.book)
        one, two = Book(), Book()
        for name in "ab":
            one.put(name, "n")
        for name in "ba":
            two.put(name, "n")
        self.assertNotEqual(one, two)
        for value in (None, 0, "", (), {}, n, self.book.page):
            self.assertFalse(self.book == value)

    def test_needs(self):
        book = Book()
        for name, text in (("z", "n"), ("b", "(z + z)"), ("c", "7"), ("a", "gcd(c, b)"), ("d", "(a * z)")):
            book.put(name, text)
        book.guard("g", "not (d == (0 - 1))")
        self.assertEqual([book.needs(name) for name in "zbcadg"],
                         [(), ("z",), (), ("b", "c", "z"), ("a", "b", "c", "z"), ("a", "b", "c", "d", "z")])

    def test_names_in_every_place_of_a_text(self):
        book = Book()
        book.put("a", "n")
        book.put("abcdefghijkl", "5")
        text = ("when(((a < a) or not (abcdefghijkl == a)), gcd(a, (abcdefghijkl ** 2)), total(minus(abs(a)), "
                "count((a <= 3), place((a < 9), at(a, a)))))")
        book.put("b", text)
        self.assertEqual((book.spelled("b"), book["b"]), (text, book["b"]))
        self.assertEqual(book["b"].text, text.replace("abcdefghijkl", "5").replace("(a ", "(n ").replace(
            "at(a, a)", "at(n, n)").replace("abs(a)", "abs(n)").replace("gcd(a", "gcd(n").replace(" a)", " n)"))

    def test_names_that_begin_with_words(self):
        book = Book()
        for k, name in enumerate(("nn", "no", "notx", "an", "atn", "minusn", "gcdgcd", "givenn", "nones", "andy", "modx")):
            book.put(name, f"(n + {k})")
            book.put("x", f"({name} + 1)")
            self.assertEqual(book["x"], n + (k + 1))
            book.guard("g", f"(({name} < {name}) or (not ({name} == x) and ({name} <= x)))")


class TestPut(Books):

    def test_a_new_name_comes_last_and_an_old_one_stays_in_its_place(self):
        self.book.put("abcdefghijkl", "(pages mod 7)")
        self.assertEqual(self.book.names, ("pages", "items", "abcdefghijkl"))
        self.book.put("items", "(n + 4)")
        self.assertEqual(self.book.names, ("pages", "items", "abcdefghijkl"))
        self.assertEqual((self.book["pages"], self.book["abcdefghijkl"]), ((n + 13) // 10, (n + 13) // 10 % 7))
        self.assertEqual(self.book["abcdefghijkl"].text, "((((n + 4) + 9) // 10) mod 7)")
        self.assertEqual(self.book["enough"].text, "((n + 4) <= ((((n + 4) + 9) // 10) * 10))")
        self.assertEqual(len(self.book), 6)

    def test_the_same_text_again_is_a_step(self):
        self.book.put("items", "(n * n)")
        self.assertEqual(len(self.book), 5)

    def test_wrong_names(self):
        for name in (*NO_NAMES, "enough"):
            self.refused(BadName, {"name": name}, self.book.put, name, "(wrong")

    def test_wrong_texts(self):
        for text, at in (("", 0), ("(n + ", 5), ("(zz < 1)", 4), ("(zz + 1001)", 9), ("zz)", 2), ("always", 6), ("abcdefghijklm", 12),
                         ("(not + 1)", 4), ("(mod + 1)", 4), ("given(zz; 1)", 6), ("(n ** zz)", 6), ("zz(n)", 2), ("gcd", 3),
                         ("(a1 + 1)", 2), ("enough ", 6), ("(n + A)", 5)):
            self.refused(BadText, {"at": at}, self.book.put, "new", text)
            self.refused(BadText, {"at": at}, self.book.put, "items", text)

    def test_unknown_names(self):
        for text, name in (("zz", "zz"), ("(items + (yy * zz))", "yy"), ("(enough + zz)", "enough"), ("(new + zz)", "new"),
                           ("((items + new) * zz)", "new"), ("(zz + items)", "zz")):
            self.refused(UnknownName, {"name": name}, self.book.put, "new", text)
        # Unknown names come ahead of circles and of what is refused.
        self.refused(UnknownName, {"name": "zz"}, self.book.put, "items", "(items + zz)")
        self.refused(UnknownName, {"name": "zz"}, self.book.put, "items", f"({FINE_TEXT} + zz)")

    def test_circles(self):
        self.refused(Circle, {"name": "items"}, self.book.put, "items", "items")
        self.refused(Circle, {"name": "items"}, self.book.put, "items", "(n + pages)")
        self.refused(Circle, {"name": "items"}, self.book.put, "items", f"({FINE_TEXT} + pages)")
        self.book.put("more", "(pages + 1)")
        self.refused(Circle, {"name": "items"}, self.book.put, "items", "(1 + more)")
        self.book.put("items", "7")
        self.refused(Circle, {"name": "pages"}, self.book.put, "pages", "(more * items)")

    def test_refused_formulas(self):
        self.refused_by("items", TooFine, {"most": 720}, self.book.put, "items", FINE_TEXT)
        self.refused_by("new", TooHigh, {"most": 8}, self.book.put, "new", HIGH_TEXT)
        self.refused_by("new", TooLate, {"most": 10000}, self.book.put, "new", LATE_TEXT)
        self.refused_by("new", BadPiece, {"index": 1}, self.book.put, "new", "given(; 0, 1/2)")
        self.book.put("high", "(items ** 4)")
        self.refused_by("high", TooHigh, {"most": 8}, self.book.put, "items", "(n ** 3)")
        # The guard would be broken, too, but it comes behind the entries.
        self.refused_by("high", TooHigh, {"most": 8}, self.book.put, "items", "((n ** 3) - 9)")

    def test_the_first_refused_entry_in_the_order_of_the_making(self):
        book = self.book = Book()
        book.put("b", "0")
        book.put("a", "n")
        book.put("c", "(a ** 3)")
        book.put("z", "1")
        book.put("b", "((a ** 4) + z)")
        # b stands ahead of c, and both need a; but b comes behind z, and c stands ahead of z.
        self.refused_by("c", TooHigh, {"most": 8}, book.put, "a", "(n ** 3)")
        book.put("c", "(a ** 2)")
        self.refused_by("b", TooHigh, {"most": 8}, book.put, "a", "(n ** 3)")
        book.put("z", "(c + 1)")
        book.put("c", "(a ** 3)")
        self.refused_by("c", TooHigh, {"most": 8}, book.put, "a", "(n ** 3)")

    def test_broken_and_refused_guards_in_their_order(self):
        self.book.guard("high", "not ((items ** 4) == (0 - 1))")
        self.book.guard("low", "(0 <= items)")
        self.refused(Broken, {"name": "enough", "n": 6}, self.book.put, "pages", "when((n == 6), 3, ((items + 9) // 10))")
        self.refused_by("high", TooHigh, {"most": 8}, self.book.put, "items", "(n ** 3)")
        self.refused_by("high", TooHigh, {"most": 8}, self.book.put, "items", "((n ** 3) - 5)")
        self.refused(Broken, {"name": "low", "n": 0}, self.book.put, "items", "(n - 1)")
        self.refused(Broken, {"name": "enough", "n": 5}, self.book.put, "items", "(100 // (n - 5))")

    def test_an_entry_that_is_undefined_somewhere_is_no_fault(self):
        self.book.put("some", "(6 // (n - 3))")
        self.assertEqual(self.book["some"], 6 // (n - 3))


class TestGuard(Books):

    def test_a_new_guard_comes_last_and_an_old_one_stays_in_its_place(self):
        self.book.guard("abcdefghijkl", "(0 <= n)")
        self.assertEqual((self.book.guards, self.book.names), (("enough", "abcdefghijkl"), ("pages", "items")))
        self.book.guard("enough", "not (items < 0)")
        self.assertEqual((self.book.guards, len(self.book)), (("enough", "abcdefghijkl"), 6))
        self.assertEqual((self.book.spelled("enough"), self.book["enough"].text), ("not (items < 0)", "not ((n * n) < 0)"))
        self.book.put("pages", "(items // 10)")
        self.refused(Broken, {"name": "enough", "n": 0}, self.book.put, "items", "(n - 1)")

    def test_wrong_names(self):
        for name in (*NO_NAMES, "items", "pages"):
            self.refused(BadName, {"name": name}, self.book.guard, name, "(wrong")

    def test_wrong_texts_and_unknown_names(self):
        for text, at in (("", 0), ("n", 1), ("items", 0), ("(items + 1)", 7), ("((n < 1) < 2)", 9), ("(not < 1)", 5),
                         ("(zz < 1001)", 9), ("(zz < 1) ", 8)):
            self.refused(BadText, {"at": at}, self.book.guard, "new", text)
        for text, name in (("(zz < yy)", "zz"), ("(items < enough)", "enough"), ("(new < 1)", "new"),
                           (f"((items < {FINE_TEXT}) and (zz < 1))", "zz")):
            self.refused(UnknownName, {"name": name}, self.book.guard, "new", text)
        self.refused(UnknownName, {"name": "enough"}, self.book.guard, "enough", "(enough < 1)")

    def test_refused_and_broken(self):
        self.refused_by("new", TooHigh, {"most": 8}, self.book.guard, "new", f"({HIGH_TEXT} < items)")
        self.refused_by("enough", TooFine, {"most": 720}, self.book.guard, "enough", f"(items < {FINE_TEXT})")
        for text, at in (("(n < 7)", 7), ("(items < (5 // (n - 4)))", 0), ("(items < (900 // (n - 4)))", 0),
                         ("((5 // (n - 4)) < 9)", 4), ("(1 == 2)", 0), ("not (items == 10000)", None), ("not (items == 900)", 30)):
            if at is not None:
                self.refused(Broken, {"name": "new", "n": at}, self.book.guard, "new", text)
                self.refused(Broken, {"name": "enough", "n": at}, self.book.guard, "enough", text)


class TestDropAndRename(Books):

    def test_drop(self):
        book = self.book
        book.put("more", "(items + 1)")
        self.refused(InUse, {"name": "items", "by": "pages"}, book.drop, "items")
        self.refused(InUse, {"name": "pages", "by": "enough"}, book.drop, "pages")
        book.drop("enough")
        self.assertEqual((book.guards, book.names, len(book)), ((), ("pages", "items", "more"), 6))
        book.drop("pages")
        self.assertEqual(book.names, ("items", "more"))
        self.refused(InUse, {"name": "items", "by": "more"}, book.drop, "items")
        book.drop("more")
        book.drop("items")
        self.assertEqual((book.names, book.page, len(book)), ((), "", 9))
        self.refused(UnknownName, {"name": "items"}, book.drop, "items")

    def test_entries_come_ahead_of_guards_in_use(self):
        self.book.put("zz", "(pages + 1)")
        self.refused(InUse, {"name": "pages", "by": "zz"}, self.book.drop, "pages")

    def test_rename(self):
        book = self.book
        book.put("item", "(items + (items * pages))")
        made = [book[name].text for name in book.names]
        book.rename("items", "i")
        self.assertEqual(book.names, ("pages", "i", "item"))
        self.assertEqual([book.spelled(name) for name in (*book.names, "enough")],
                         ["((i + 9) // 10)", "(n * n)", "(i + (i * pages))", "(i <= (pages * 10))"])
        self.assertEqual([book[name].text for name in book.names], made)
        self.assertEqual((book.needs("item"), "items" in book, len(book)), (("i", "pages"), False, 6))
        book.rename("i", "abcdefghijkl")
        self.assertEqual(book.spelled("item"), "(abcdefghijkl + (abcdefghijkl * pages))")
        book.rename("enough", "fits")
        self.assertEqual((book.guards, book.spelled("fits")), (("fits",), "(abcdefghijkl <= (pages * 10))"))
        book.put("abcdefghijkl", "5")
        self.assertEqual(book["item"].text, "(5 + (5 * ((5 + 9) // 10)))")
        self.refused(Broken, {"name": "fits", "n": 0}, book.put, "pages", "0")

    def test_wrong_new_names(self):
        for new in (*NO_NAMES, "items", "pages", "enough"):
            self.refused(BadName, {"name": new}, self.book.rename, "items", new)
            self.refused(BadName, {"name": new}, self.book.rename, "enough", new)


class TestMoved(Books):

    def test_moved(self):
        book = self.book
        book.put("same", "(items - items)")
        kept = self.state(book)
        self.assertEqual(book.moved("items", "(n ** 2)"), {})
        self.assertEqual(book.moved("items", "7"), {"pages": 0, "items": 0})
        self.assertEqual(book.moved("items", "when((n == 900), 5, (n * n))"), {"pages": 900, "items": 900})
        self.assertEqual(book.moved("pages", "(items + 1)"), {"pages": 0})
        self.assertEqual(book.moved("new", "(n + items)"), {})
        self.assertEqual(book.moved("same", "(0 // (n - 5))"), {"same": 5})
        found = book.moved("items", "7")
        found.clear()
        self.assertEqual(book.moved("items", "7"), {"pages": 0, "items": 0})
        self.assertEqual(self.state(book), kept)

    def test_it_raises_what_put_would_raise(self):
        self.refused(BadName, {"name": "enough"}, self.book.moved, "enough", "1")
        self.refused(BadText, {"at": 0}, self.book.moved, "items", "")
        self.refused(UnknownName, {"name": "zz"}, self.book.moved, "items", "zz")
        self.refused(Circle, {"name": "items"}, self.book.moved, "items", "pages")
        self.refused_by("items", TooFine, {"most": 720}, self.book.moved, "items", FINE_TEXT)
        self.refused(Broken, {"name": "enough", "n": 1}, self.book.moved, "pages", "(items // 10)")


class TestSteps(Books):

    def test_undo(self):
        book = self.book
        pages = [book.past(k).page for k in range(5)]
        self.assertEqual(pages[0], "")
        for k in (3, 2, 1, 0):
            book.undo()
            self.assertEqual((book.page, len(book)), (pages[k], k))
        self.assertEqual((book.names, book.guards), ((), ()))
        self.refused(NoSteps, {}, book.undo)
        book.put("a", "n")
        self.assertEqual((book.page, len(book)), ("a = n", 1))

    def test_past(self):
        book = self.book
        for k in range(5):
            old = book.past(k)
            self.assertEqual((len(old), type(old)), (k, Book))
            self.assertEqual([old.past(j) for j in range(k + 1)], [book.past(j) for j in range(k + 1)])
        self.assertEqual(book.past(1)["pages"].text, "0")
        self.assertEqual(book.past(2).names, ("pages", "items"))
        whole = book.past(4)
        self.assertEqual(whole, book)
        whole.put("items", "3")
        old = book.past(2)
        old.drop("items")
        old.undo()
        old.undo()
        self.assertEqual((old.page, book["items"], len(book)), ("pages = 0", n * n, 4))
        book.undo()
        self.assertEqual((len(whole), whole.guards), (5, ("enough",)))

    def test_wrong_numbers_of_steps(self):
        for k in (*NO_INTEGERS, -1, 5, 10 ** 30):
            self.refused(BadNumber, {"number": k}, self.book.past, k)


class TestAttempts(Books):

    def test_the_steps_become_one(self):
        book = self.book
        kept = book.page

        def action(given):
            self.assertIs(given, book)
            book.put("a", "n")
            given.put("b", "(a + 1)")
            self.assertEqual(len(book), 6)
            self.assertEqual(book.past(5).names, ("pages", "items", "a"))
            return ["answer"]

        self.assertEqual(book.attempt(action), ["answer"])
        self.assertEqual((book.names, len(book)), (("pages", "items", "a", "b"), 5))
        self.assertEqual(book.past(4).page, kept)
        book.undo()
        self.assertEqual((book.page, len(book)), (kept, 4))

    def test_no_steps_are_no_step(self):
        book = self.book
        self.assertIsNone(book.attempt(lambda given: None))

        def back_and_forth(given):
            given.put("a", "n")
            given.undo()
            return 7

        self.assertEqual((book.attempt(back_and_forth), len(book)), (7, 4))
        self.assertEqual(book.attempt(len), 4)

    def test_steps_that_change_nothing_are_one_step(self):
        self.book.attempt(lambda book: book.put("items", "(n * n)"))
        self.assertEqual(len(self.book), 5)

    def test_any_exception_takes_all_back(self):
        for error in (Mine, KeyboardInterrupt, SystemExit, GeneratorExit, StopIteration, ValueError):
            kept = self.state(self.book)

            def action(book):
                book.put("a", "n")
                book.drop("enough")
                book.rename("items", "i")
                raise error()

            with self.assertRaises(error):
                self.book.attempt(action)
            self.assertEqual(self.state(self.book), kept)
            self.book.undo()
            self.book.guard("enough", "(items <= (pages * 10))")

    def test_errors_of_steps_go_on_and_the_same_object(self):
        error = Mine()

        def raising(book):
            raise error

        with self.assertRaises(Mine) as caught:
            self.book.attempt(raising)
        self.assertIs(caught.exception, error)
        self.refused(Broken, {"name": "enough", "n": 0}, self.book.attempt, lambda book: (
            book.put("new", "1"), book.put("pages", "(0 - 1)")))
        self.refused(NoSteps, {}, self.book.attempt, lambda book: (book.put("new", "1"), book.undo(), book.undo()))

    def test_a_step_that_is_refused_may_be_caught_within(self):
        def action(book):
            book.put("a", "n")
            try:
                book.put("a", "a")
            except Circle:
                pass
            book.put("b", "a")

        self.book.attempt(action)
        self.assertEqual((self.book.names, len(self.book)), (("pages", "items", "a", "b"), 5))

    def test_undo_within_an_attempt(self):
        def action(book):
            self.assert_error(NoSteps, {}, book.undo)
            book.put("a", "n")
            book.put("b", "a")
            book.undo()
            self.assertEqual((book.names, len(book)), (("pages", "items", "a"), 5))
            book.undo()
            self.assert_error(NoSteps, {}, book.undo)
            book.put("c", "n")
            old = book.past(3)
            old.undo()
            self.assertEqual(len(old), 2)

        self.book.attempt(action)
        self.assertEqual((self.book.names, len(self.book)), (("pages", "items", "c"), 5))
        # Behind the attempt all steps may be taken back again.
        for _ in range(5):
            self.book.undo()
        self.assertEqual(len(self.book), 0)

    def test_attempts_within_attempts(self):
        def inner(book):
            self.assert_error(NoSteps, {}, book.undo)
            book.put("b", "a")
            book.put("c", "b")

        def failing(book):
            book.put("d", "a")
            book.undo()
            book.put("e", "a")
            raise Mine()

        def outer(book):
            book.put("a", "n")
            book.attempt(inner)
            self.assertEqual(len(book), 6)
            with self.assertRaises(Mine):
                book.attempt(failing)
            self.assertEqual((len(book), book.names[-1]), (6, "c"))
            book.undo()
            self.assertEqual((len(book), book.names[-1]), (5, "a"))
            book.attempt(inner)
            book.attempt(lambda book: None)
            return len(book)

        self.assertEqual(self.book.attempt(outer), 6)
        self.assertEqual((len(self.book), self.book.names[-1]), (5, "c"))
        self.book.undo()
        self.assertEqual(self.book.names, ("pages", "items"))
        with self.assertRaises(Mine):
            self.book.attempt(lambda book: (book.put("a", "n"), book.attempt(inner), book.attempt(failing)))
        self.assertEqual((len(self.book), self.book.names), (4, ("pages", "items")))

    def test_an_attempt_that_is_no_function(self):
        with self.assertRaises(TypeError):
            self.book.attempt(5)
        self.assertEqual(len(self.book), 4)
        self.book.undo()


NAMES = ("a", "b", "c", "dd", "a", "b", "c", "dd", "e", "n", "gcd", "ab1", "abcdefghijklm", "zz", None, [], "")
FORMULAS = (
    "n", "3", "(n + 1)", "(a + 1)", "(a * b)", "(b // 2)", "(c mod 7)", "gcd(a, b)", "(dd - n)", "(n mod 35)",
    "when((a < b), c, n)", "(e ** 6)", "(n ** 5)", "a", "b", "c", "(zz + 1)", "abs((n - 3))", "(n + ", "(n < 1)",
    "(n mod 36)", "least(a, 5)", "total(a, n)", "given(; 1/2)", "at(a, b)", "count((a < 5), n)", "(b + dd)",
    "(6 // (a - 3))")
TESTS = (
    "(0 <= a)", "(a <= b)", "(n <= b)", "not (a == (n + 1))", "((0 <= n) and (a < (n + 9)))", "(1 < 2)", "(c == c)",
    "(dd <= 100)", "(zz < 1)", "(n +", "(a < (6 // b))", "(0 <= (b mod 49))")


def drawn_step(draw):
    kind = draw.choices(("put", "guard", "drop", "rename", "undo", "moved", "needs", "attempt"),
                        (45, 15, 7, 8, 8, 5, 4, 8))[0]
    if kind in ("put", "moved"):
        return kind, draw.choice(NAMES), draw.choice(FORMULAS)
    if kind == "guard":
        return kind, draw.choice(NAMES), draw.choice(TESTS)
    if kind == "rename":
        return kind, draw.choice(NAMES), draw.choice(NAMES)
    if kind == "attempt":
        return kind, [drawn_step(draw) for _ in range(draw.randrange(5))], draw.random() < 0.3
    return (kind,) if kind == "undo" else (kind, draw.choice(NAMES))


def done(book, step, log):
    """Does the step and adds to the log what came of it, also within attempts."""
    def action(given):
        for inner in step[1]:
            done(given, inner, log)
            log.append(len(given))
        if step[2]:
            raise Mine()
        return 17

    try:
        log.append(book.attempt(action) if step[0] == "attempt" else getattr(book, step[0])(*step[1:]))
    except Mine:
        log.append("mine")
    except EveryfloorError as error:
        log.append(plain_error(error))


def plain_error(error):
    """The kind and the fields of an error."""
    return type(error), {key: plain_error(value) if isinstance(value, EveryfloorError) else value
                         for key, value in vars(error).items()}


class TestDrawnSteps(Twins):

    def test_drawn_steps(self):
        draw = Random(53)
        seen = set()
        for _ in range(60):
            book, plain = Book(), PlainBook()
            steps = [("put", "a", "n"), ("put", "b", "(a + 2)"), ("put", "c", "(b * a)"), ("guard", "g", "(a <= b)")]
            for step in steps + [drawn_step(draw) for _ in range(20)]:
                logs = [], []
                done(book, step, logs[0])
                done(plain, step, logs[1])
                self.assertEqual(*logs, (step, plain.page))
                seen |= {found[0] for found in logs[0] if isinstance(found, tuple) and found and type(found[0]) is type}
                self.assert_same(book, plain)
        self.assertGreaterEqual(
            seen, {BadName, BadText, UnknownName, Circle, Refused, Broken, InUse, NoSteps})

    def assert_same(self, book, plain):
        self.assertEqual((book.page, len(book)), (plain.page, len(plain)))
        self.assertEqual((book.names, book.guards), (tuple(plain.entries), tuple(plain.tests)))
        for name, text in plain.entries.items():
            f = read_formula(full(text, plain.entries))
            self.assertEqual((book[name], book[name].text, book.spelled(name)), (f, f.text, text))
        for name, text in plain.tests.items():
            t = read_test(full(text, plain.entries))
            self.assertEqual((book[name], book[name].text, book.spelled(name)), (t, t.text, text))
        self.assertEqual([(book.past(k).names, book.past(k).guards) for k in range(len(book))],
                         [(tuple(entries), tuple(tests)) for entries, tests in plain.behind])


if __name__ == "__main__":
    unittest.main()
