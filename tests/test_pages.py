"""Point [58]: the page of a book, and books read from pages."""

import unittest
from random import Random

from everyfloor.books import Book
from everyfloor.errors import (
    BadLine, BadName, BadPiece, BadText, Broken, Circle, EveryfloorError, Refused, TooFine, TooHigh, UnknownName)
from everyfloor.formulas import unknown
from tests.grammar import changed
from tests.plain_book import read_page
from tests.test_books import FORMULAS, TESTS, plain_error
from tests.twins import Twins

n = unknown()
EXAMPLE = """pages = ((items + 9) // 10)
items = (n * n)
always enough: (items <= (pages * 10))"""
FINE_TEXT, HIGH_TEXT = "(n mod (700 + 21))", "((n ** 6) ** 2)"


class TestPages(Twins):

    def wrong(self, page, line, error, **fields):
        with self.assertRaises(BadLine) as caught:
            Book.read(page)
        found = caught.exception
        self.assertEqual((type(found), type(found.why), found.line), (BadLine, error, line), page)
        self.assertEqual(vars(found.why), fields)

    def wrong_by(self, page, line, name, error, **fields):
        """The line is refused with Refused, and that with the error."""
        with self.assertRaises(BadLine) as caught:
            Book.read(page)
        why = caught.exception.why
        self.assertEqual((caught.exception.line, type(why), why.name), (line, Refused, name))
        self.assertEqual((type(why.why), vars(why.why)), (error, fields))

    def test_example(self):
        book = Book.read(EXAMPLE)
        self.assertEqual((book.page, book.names, book.guards), (EXAMPLE, ("pages", "items"), ("enough",)))
        self.assertEqual(book["pages"], (n * n + 9) // 10)
        self.assertEqual(type(book), Book)
        self.wrong("a = b\nb = (b + 1)", 2, Circle, name="b")

    def test_the_steps_that_the_lines_tell(self):
        book = Book.read(EXAMPLE)
        self.assertEqual(len(book), 2)
        self.assertEqual([book.past(k).page for k in range(3)], ["", EXAMPLE.rpartition("\n")[0], EXAMPLE])
        book.undo()
        book.undo()
        self.assertEqual((book.page, len(book)), ("", 0))
        self.assertEqual(len(Book.read("")), 0)
        self.assertEqual(len(Book.read("a = n")), 1)
        self.assertEqual(len(Book.read("always g: (0 <= n)\nalways h: (0 <= n)")), 2)
        self.assertEqual(len(Book.read("a = b\nb = n\nc = 7")), 1)

    def test_the_page_of_a_book_is_read_back(self):
        book = Book()
        self.assertEqual((book.page, Book.read("")), ("", book))
        for name, text in (("a", "n"), ("c", "(a + 1)"), ("b", "(c * 2)"), ("a", "when((n < 5), 1, 2)"), ("c", "(a ** 2)")):
            book.put(name, text)
            self.assertEqual(Book.read(book.page), book)
        book.guard("z", "(a <= c)")
        book.guard("y", "not (b == 0)")
        self.assertEqual(book.page, "a = when((n < 5), 1, 2)\nc = (a ** 2)\nb = (c * 2)\nalways z: (a <= c)\n"
                                    "always y: not (b == 0)")
        self.assertEqual(Book.read(book.page), book)
        self.assertEqual(Book.read(page=book.page)["b"].text, "((when((n < 5), 1, 2) ** 2) * 2)")

    def test_entries_of_later_lines(self):
        book = Book.read("c = (a + b)\na = (b * 2)\nb = (n + 1)")
        self.assertEqual((book.names, book["c"]), (("c", "a", "b"), 3 * n + 3))

    def test_lines_are_parted_at_line_ends_alone(self):
        for sign in ("\r", "\x0b", "\x0c", "\x1c", "\x85", "\u2028", "\u2029"):
            self.wrong(f"a = n{sign}b = n", 1, BadText, at=1)
            self.wrong(f"b = 1\na = n{sign}\nb = n", 2, BadText, at=1)
        self.wrong("a = n\r\nb = n", 1, BadText, at=1)

    def test_empty_lines(self):
        self.wrong("\n", 1, BadText, at=0)
        self.wrong("a = n\n", 2, BadText, at=0)
        self.wrong("a = n\n\nb = n", 2, BadText, at=0)
        self.wrong("always g: (0 <= n)\n", 2, BadText, at=0)

    def test_wrong_lines_of_entries(self):
        self.wrong("a= n", 1, BadText, at=0)
        self.wrong("a =n", 1, BadText, at=0)
        self.wrong("a = n\nb: n", 2, BadText, at=0)
        self.wrong(" = n", 1, BadName, name="")
        self.wrong(" a = n", 1, BadName, name=" a")
        self.wrong("a  = n", 1, BadName, name="a ")
        self.wrong("A = n", 1, BadName, name="A")
        self.wrong("n = (", 1, BadName, name="n")
        self.wrong("always = n\na = n", 1, BadText, at=0)
        self.wrong("abcdefghijklm = (", 1, BadName, name="abcdefghijklm")
        self.wrong("a = n\nb = n\na = (", 3, BadName, name="a")
        self.wrong("a = b = n", 1, BadText, at=1)
        self.wrong("a = (n = n)", 1, BadText, at=3)
        self.wrong("a = ", 1, BadText, at=0)
        self.wrong("a =  n", 1, BadText, at=0)
        self.wrong("a = (n + 1", 1, BadText, at=6)
        self.wrong("a = (b < 1)", 1, BadText, at=3)
        self.wrong("a == n", 1, BadText, at=0)

    def test_each_line_is_looked_at_by_itself_first(self):
        self.wrong("a = zz\nb = (", 2, BadText, at=1)
        self.wrong("a = (n +\nA = n", 1, BadText, at=4)
        self.wrong("A = n\na = (n +", 1, BadName, name="A")
        self.wrong(f"a = {FINE_TEXT}\nb", 2, BadText, at=0)
        self.wrong("a = a\nb = (n", 2, BadText, at=2)

    def test_unknown_names_come_next(self):
        self.wrong("a = (b + zz)\nb = yy", 1, UnknownName, name="zz")
        self.wrong("a = a\nb = yy", 2, UnknownName, name="yy")
        self.wrong(f"a = {FINE_TEXT}\nb = (xx * yy)", 2, UnknownName, name="xx")
        self.wrong("a = g\nalways g: (0 <= n)", 1, UnknownName, name="g")
        self.wrong("a = zz\nalways g", 1, UnknownName, name="zz")

    def test_circles_come_next(self):
        self.wrong(f"a = {FINE_TEXT}\nb = c\nc = (b + a)", 2, Circle, name="b")
        self.wrong("a = a", 1, Circle, name="a")
        self.wrong("d = c\na = b\nb = c\nc = a", 2, Circle, name="a")
        self.wrong("a = b\nb = (b + 1)\nalways g", 2, Circle, name="b")

    def test_refused_entries_come_next(self):
        self.wrong_by(f"a = n\nb = {FINE_TEXT}", 2, "b", TooFine, most=720)
        self.wrong_by(f"a = (c ** 6)\nb = {FINE_TEXT}\nc = (n ** 2)", 2, "b", TooFine, most=720)
        self.wrong_by(f"b = (c + {FINE_TEXT})\na = (c ** 6)\nc = (n ** 2)", 1, "b", TooFine, most=720)
        self.wrong_by("b = (d ** 6)\na = (c ** 6)\nc = (n ** 2)\nd = c", 2, "a", TooHigh, most=8)
        self.wrong_by("a = given(; 1/2)\nalways g", 1, "a", BadPiece, index=0)

    def test_wrong_lines_of_guards(self):
        self.wrong("always g:(0 <= n)", 1, BadText, at=0)
        self.wrong("a = n\nalways g = n", 2, BadText, at=0)
        self.wrong("always ", 1, BadText, at=0)
        self.wrong("always g: (0 <= n)\nb = n", 2, BadText, at=0)
        self.wrong("always g: (0 <= n)\nalwaysh: (0 <= n)", 2, BadText, at=0)
        self.wrong("a = n\nalways a: (", 2, BadName, name="a")
        self.wrong("always : (0 <= n)", 1, BadName, name="")
        self.wrong("always  g: (0 <= n)", 1, BadName, name=" g")
        self.wrong("always g : (0 <= n)", 1, BadName, name="g ")
        self.wrong("always n: (0 <= n)", 1, BadName, name="n")
        self.wrong("always g: (0 <= n", 1, BadText, at=7)
        self.wrong("always g:  (0 <= n)", 1, BadText, at=0)
        self.wrong("always g: h: (0 <= n)", 1, BadText, at=0)
        self.wrong("always g: (0 <= zz)", 1, UnknownName, name="zz")
        self.wrong("always g: (0 <= g)", 1, UnknownName, name="g")
        self.wrong_by(f"always g: (0 <= {HIGH_TEXT})", 1, "g", TooHigh, most=8)
        self.wrong("a = (n - 3)\nalways g: (0 <= n)\nalways h: (a <= 4)", 3, Broken, name="h", n=8)

    def test_each_guard_is_a_step_of_its_own(self):
        self.wrong("always g: (1 <= n)\nalways h", 1, Broken, name="g", n=0)
        self.wrong("always g: (0 <= n)\nalways h\nalways g: (n", 2, BadText, at=0)
        book = Book.read("a = n\nalways g: (0 <= n)\nalways h: (0 <= a)\nalways g: (0 == 0)")
        self.assertEqual((book.guards, book.spelled("g"), len(book)), (("g", "h"), "(0 == 0)", 4))

    def test_drawn_pages(self):
        draw = Random(58)
        seen, fine = set(), 0
        for _ in range(1500):
            names = draw.sample(["a", "b", "c", "dd", "e", "n", "gcd", "zz"], 4)
            entries = [f"{name} = {draw.choice(FORMULAS)}" for name in names[:draw.randrange(5)]]
            guards = [f"always {draw.choice('ghna')}: {draw.choice(TESTS)}" for _ in range(draw.randrange(3))]
            if draw.random() < 0.5:
                entries = ["a = n", "b = (a + 1)", "c = (b * a)"] + entries[:draw.randrange(2)]
                draw.shuffle(entries)
            page = "\n".join(entries + guards)
            page = changed(draw, page) if draw.random() < 0.3 else page
            try:
                plain = read_page(page)
            except EveryfloorError as error:
                seen.add(type(error.why))
                with self.assertRaises(BadLine) as caught:
                    Book.read(page)
                self.assertEqual(plain_error(caught.exception), plain_error(error), page)
            else:
                fine += 1
                book = Book.read(page)
                self.assertEqual((book.page, len(book)), (plain.page, len(plain)))
        self.assertEqual(seen, {BadText, BadName, UnknownName, Circle, Refused, Broken})
        self.assertGreater(fine, 100)


if __name__ == "__main__":
    unittest.main()
